/- GtR3, GtIn, GtG, GtP: texts of this seat, one behind the other. -/
import Derived.Test.YtcplebbaiambgaaGtR2
import Derived.Test.YtcplebbaiambgaaGtLawN
import Derived.Test.YtcplebbaiambgaaG7
import Derived.Test.YtcplebbaiambgaaG4
/- The document's own gate: Admit, New: their contracts. (Written by gen_gtref3.py.) -/
namespace Go.Proofs.Ytcplebbaiambgaa
set_option linter.unusedVariables false
set_option maxRecDepth 100000
set_option linter.unusedSimpArgs false
open Go.RowKit

theorem nets_drop (l : List Nt) (i a : Nat) (x : Nt) (h : l[i]? = some x) : netsB (l.drop i) a = (inB x.addr x.bits a || netsB (l.drop (i + 1)) a) := netsB_drop l i a x h
set_option maxRecDepth 100000 in
set_option maxHeartbeats 4000000 in
theorem radmit_ok (w : World) (rb bn bv : Nat) (x : Rq) (U : Us) (u : World) (h : Rg w rb bn bv x U u) (hx : RqB w x) (tn : List Tn) (hT : ∀ s, (fT s x.ts).map (·.t) = gtF tn s) (hte : ∀ t ∈ tn, tenB t = true) (s : ByteArray) (a : Nat) (ha : a < 4294967296) :
    Calls Try.prog 17 #[.pointer (some ⟨rb, 0, none⟩), .string s, .int .u32 (a : Int)] u fun e u' => e = .returned (.int .i64 (adI (gtF tn s) a)) ∧ Below u.heap.size u u' := by
  have HC := Lib.hid (rg_cells h)
  have HFI := Lib.hid (fun v (hv : Below w.heap.size w v) => rfind_ok (.int .i64 x.a0) (.int .i64 x.a1) (.int .i64 x.a2) (.int .i64 x.a3) x.A x.ts x.n x.c s v (hx.r.on hv) hx.n (by have := hx.few; omega))
  have HFN := Lib.hid (find_net hT hte s a)
  have HRY := Lib.hid (show RT1 w ((fT s x.ts).getD zeroTv) by
    cases hq : fT s x.ts with
    | none => exact RT1.zero w
    | some y => exact hx.r.each y (fT_mem hq).1)
  have HIM := Lib.hid (show (fT s x.ts).isSome = false → ((fT s x.ts).getD zeroTv).t.nets = [] from fun hi => by
    cases hq : fT s x.ts with
    | none => rfl
    | some y => rw [hq] at hi; cases hi)
  have HL0 := Lib.hid h.l
  obtain ⟨a0, a1, a2, a3, A, n, c, ts⟩ := x
  dsimp only at HC HFI HFN HRY HIM
  obtain ⟨⟨⟨yn, ya, yb, ynl, ykl⟩, yAn, c2, yAk, yck⟩, hy⟩ : ∃ y, (fT s ts).getD zeroTv = y := ⟨_, rfl⟩
  obtain ⟨is, his⟩ : ∃ is, (fT s ts).isSome = is := ⟨_, rfl⟩
  rw [hy, his] at HFI HFN HIM
  rw [hy] at HRY
  dsimp only at HFN HIM
  obtain ⟨nl, hnl⟩ : ∃ nl, ynl.length = nl := ⟨_, rfl⟩
  have HNL := Lib.hid hnl
  obtain ⟨f1, f2, f3⟩ := HFN.out
  rw [hnl] at f1
  have HRI := Lib.hid f2
  simp only [tcs, hnl] at HFI
  obtain ⟨R, hR⟩ : ∃ R, netsB ynl a = R := ⟨_, rfl⟩
  rw [hR] at f3
  have HA := Lib.hid hR
  have HE := Lib.hid (show decide (ynl = []) = decide (nl = 0) by rw [← hnl]; cases ynl <;> simp)
  rw [HE.out] at f3
  obtain ⟨E, hE⟩ : ∃ E, adI (gtF tn s) a = E := ⟨_, rfl⟩
  rw [hE] at f3 ⊢
  have HAD := Lib.hid f3
  obtain ⟨c0, c1, c2', c3, c4⟩ := HC.out u (Below.refl _ _)
  clear h hx hT hte hy his hnl f2 f3 hR hE HFN
  go_enter Try.func17, Try.ntmps17
  cases is with
  | false =>
    go_wp2_with (go_at_call 22; (with_reducible refine (HFI.out _ HL0.out).mono ?_); rintro e u2 ⟨rfl, hb⟩; have HB := Lib.hid hb; clear hb)
    go_ret
    have hq : E = 3 := by rw [HAD.out]; simp
    exact ⟨by rw [hq]; rfl, HB.out.alloc HB.out.size _⟩
  | true =>
    go_upto_region 4 with (go_at_call 22; (with_reducible refine (HFI.out _ HL0.out).mono ?_); rintro e u2 ⟨rfl, hb⟩; have HB := Lib.hid (hb.alloc hb.size (.cells #[.string yn, .int .i64 ya, .int .i64 yb, .slice yAn nl c2, .slice yAk ykl.length yck] 45)); have HNB := Lib.hid (Bk.new u2 45 #[.string yn, .int .i64 ya, .int .i64 yb, .slice yAn nl c2, .slice yAk ykl.length yck]); clear hb)
    clear c0 c1 c2' c3 c4
    obtain ⟨wb, hwb⟩ : ∃ wb, u2.alloc (.cells #[.string yn, .int .i64 ya, .int .i64 yb, .slice yAn nl c2, .slice yAk ykl.length yck] 45) = wb := ⟨_, rfl⟩
    obtain ⟨gb, hgb⟩ : ∃ gb, u2.heap.size = gb := ⟨_, rfl⟩
    rw [hwb] at HB HNB ⊢
    rw [hgb] at HNB ⊢
    clear hwb hgb
    go_wp2_with fail
    go_loopw [9] (fun v9 wr => ∃ (i : Nat), i ≤ nl ∧ v9 = .int .i64 (i : Int) ∧ Hid (R = netsB (ynl.drop i) a) ∧ Hid (Below wb.heap.size wb wr)) (fun v9 _ => nl - (intOf v9).toNat)
    case atStart => exact ⟨0, by omega, rfl, Lib.hid (by rw [List.drop_zero]; exact HA.out.symm), Lib.hid (Below.refl _ _)⟩
    case round =>
      obtain ⟨i, hi0, rfl, HD, HP⟩ := hrel
      have t3 : wr.cell? ⟨gb, 3, none⟩ = some (.slice yAn nl c2) := (HNB.out.below HP.out HNB.out.lt).cell 3
      have HLW := Lib.hid (HB.out.trans (HP.out.mono HB.out.size))
      by_cases hi1 : i < nl
      · have hi2 : (i : Int) < (nl : Int) := by omega
        obtain ⟨b, o, x, rfl, hx, hc⟩ := HRY.out.n.at2 i (by dsimp only; rw [HNL.out]; exact hi1)
        dsimp only at hx
        obtain ⟨c0, c1⟩ := hc wr (HL0.out.trans (HLW.out.mono HL0.out.size))
        have HST := Lib.hid (nets_drop ynl i a x hx)
        have HXL := Lib.hid (HRY.out.lt x (List.mem_of_getElem? hx))
        obtain ⟨xa, xb⟩ := x
        dsimp only at HST c0 c1 HXL
        have HIN := Lib.hid (fun v => rin_ok xa xb a v HXL.out ha)
        obtain ⟨q, hq⟩ : ∃ q, inB xa xb a = q := ⟨_, rfl⟩
        simp only [hq] at HIN HST
        clear hc hx hq
        cases q with
        | false =>
          go_wp2_with (go_at_call 31; refine (HIN.out _).mono ?_; rintro e u3 ⟨rfl, hb⟩; have H3 := Lib.hid (HP.out.trans (hb.mono HP.out.size)); clear hb)
          go_roundw
          case rel => exact ⟨i + 1, by omega, by go_num, Lib.hid (by rw [HD.out, HST.out, Bool.false_or]), H3⟩
          case measure => simp [intOf]; omega
        | true =>
          have HT := Lib.hid (show R = true by rw [HD.out, HST.out, Bool.true_or])
          go_wp2_with (go_at_call 31; refine (HIN.out _).mono ?_; rintro e u3 ⟨rfl, hb⟩; have H3 := Lib.hid (HP.out.trans (hb.mono HP.out.size)); clear hb)
          go_ret
          have hq : E = 0 := by rw [HAD.out, HT.out]; simp
          exact ⟨by rw [hq]; rfl, HB.out.trans (H3.out.mono HB.out.size)⟩
      · have hi2 : ¬ (i : Int) < (nl : Int) := by omega
        have HT := Lib.hid (show R = false by rw [HD.out, List.drop_eq_nil_of_le (by rw [HNL.out]; omega)]; rfl)
        by_cases hz : nl = 0
        · have hz2 : ¬ (0 : Int) < (nl : Int) := by omega
          have hz3 : ¬ 0 < nl := by omega
          have HZ := Lib.hid hz
          clear hz
          go_wp2
          go_ret
          have hq : E = 0 := by rw [HAD.out, HT.out, decide_eq_true HZ.out]; simp
          exact ⟨by rw [hq]; rfl, HLW.out⟩
        · have hz2 : (0 : Int) < (nl : Int) := by omega
          have hz3 : 0 < nl := by omega
          have HZ := Lib.hid hz
          clear hz
          go_wp2
          go_ret
          have hq : E = 111 := by rw [HAD.out, HT.out, decide_eq_false HZ.out]; simp
          exact ⟨by rw [hq]; rfl, HLW.out⟩

/-- make([]int, n): the world behind it written out. -/
theorem mk_ints (w : World) (n : Nat) (hn : n ≤ 1000) (cs : Array Value) (hcs : cs = Array.replicate n (.int .i64 0)) (kl kc : IntKind := .i64) :
    (Instr.makeSlice 69 (.int kl (n : Int)) (.int kc (n : Int))).run Try.prog w = .ok (.slice (some ⟨w.heap.size, 0, none⟩) n n) (w.alloc (.cells cs 3)) := by
  have hi : (Try.prog.info? 3).map (fun i => (i.zero, i.size, i.bytes)) = some (some (.int .i64 0), 1, 8) := by kernel_rfl
  obtain ⟨i, hi1, hi2⟩ := Option.map_eq_some_iff.1 hi
  have hz : i.zero = some (.int .i64 0) := congrArg (·.1) hi2
  have hs : i.size = 1 := congrArg (·.2.1) hi2
  have hb : i.bytes = 8 := congrArg (·.2.2) hi2
  have h := run_make (P := Try.prog) w 69 3 i (.int .i64 0) Try.underlying69 hi1 hz kl kc n n (by omega) (by omega) (by rw [hb]; omega) (by omega)
  rw [h]
  have e1 : madeCells #[Value.int .i64 0] n = cs := by
    rw [hcs]; apply Array.ext'; rw [toList_madeCells_one]; simp
  simp [hs, Value.cells, e1]
theorem ucl_zero (ts : List Tv) (k : Int) : ucl ts U0 k = Array.replicate ts.length (.int .i64 0) := by
  unfold ucl U0
  apply Array.ext'
  simp [List.map_const']

theorem gen_hG {P : Program} {md : Region.Mode} {ops : Array Oper} {Q : Exit → Act → World → Prop} {S' : World → Prop} {fuel : Nat} {listed : Array Bool} {a : Act} {w : World} (S : World → Prop) (hS : S w) (h : ∀ u, S u → wpAnyH P md ops Q S' fuel listed a u) : wpAnyH P md ops Q S' fuel listed a w := h w hS
/-- What the document's New leaves. -/
def RnG (C : Bool) (w : World) (x : Rq) (u : World) (e : Ending) (u' : World) : Prop := ((C = false ∧ e = .returned (.pointer none)) ∨ (C = true ∧ ∃ rb bn bv, e = .returned (.pointer (some ⟨rb, 0, none⟩)) ∧ Rg w rb bn bv x U0 u')) ∧ Below u.heap.size u u'
theorem rq_of {x : Cv} {w : World} (h : RC w x) (hc : cfgB x.cg = true) : RqB w ⟨x.wait, x.grace, x.idle, x.lease, x.A, x.ts.length, x.c, x.ts⟩ := by
  obtain ⟨_, _, _, _, h1, h2, _⟩ := cfgB_parts hc
  refine ⟨h.r, rfl, ?_, nd_of ?_⟩
  · simpa [Cv.cg] using h1
  · rwa [show x.cg.tens.map (·.name) = x.ts.map (·.t.name) from List.map_map] at h2
set_option maxRecDepth 100000 in
set_option maxHeartbeats 4000000 in
theorem rgnew_ok (x : Cv) (w : World) (h : RC w x) (u : World) (hu : Below w.heap.size w u) :
    Calls Try.prog 13 #[.agg (ccs x)] u (RnG (cfgB x.cg) w ⟨x.wait, x.grace, x.idle, x.lease, x.A, x.ts.length, x.c, x.ts⟩ u) := by
  have HR := Lib.hid (fun v (hv : Below u.heap.size u v) => rfright_ok x v (h.on (hu.trans (hv.mono hu.size))))
  have HU := Lib.hid hu
  have HNE := Lib.hid (show cfgB x.cg = true → x.ts.length ≤ 8 from fun hc => (rq_of h hc).few)
  obtain ⟨C, hC⟩ : ∃ C, cfgB x.cg = C := ⟨_, rfl⟩
  rw [hC] at HR HNE ⊢
  obtain ⟨a0, a1, a2, a3, ts, A, cp⟩ := x
  dsimp only at HNE
  obtain ⟨n, hn⟩ : ∃ n, ts.length = n := ⟨_, rfl⟩
  have HN := Lib.hid hn
  simp only [ccs, hn] at HR ⊢
  rw [hn] at HNE
  have H1 := Lib.hid (show Bx u u.heap.size 24 #[.int .i64 a0, .int .i64 a1, .int .i64 a2, .int .i64 a3, .slice A n cp] (u.alloc (.cells #[.int .i64 a0, .int .i64 a1, .int .i64 a2, .int .i64 a3, .slice A n cp] 24)) from Bx.new _ _ _)
  clear h hn hC hu
  go_enter Try.func13, Try.ntmps13
  cases C with
  | false =>
    go_wp2_with (go_at_call 26; (with_reducible refine (HR.out _ H1.out.l).mono ?_); rintro e u2 ⟨rfl, hb⟩; have H2 := Lib.hid (H1.out.on hb); clear hb)
    go_ret
    exact ⟨.inl ⟨rfl, rfl⟩, H2.out.l⟩
  | true =>
    have hn8 : n ≤ 8 := HNE.out rfl
    go_upto_region 3 with (go_at_call 26; (with_reducible refine (HR.out _ H1.out.l).mono ?_); rintro e u2 ⟨rfl, hb⟩; have H2 := Lib.hid (H1.out.on hb); clear hb)
    obtain ⟨g0, hg0⟩ : ∃ g, u.heap.size = g := ⟨_, rfl⟩
    have HG0 := Lib.hid hg0
    rw [hg0] at H2 ⊢
    clear hg0
    have e0 : u2.cell? ⟨g0, 0, none⟩ = some (.int .i64 a0) := H2.out.b.cell 0
    have e1 : u2.cell? ⟨g0, 1, none⟩ = some (.int .i64 a1) := H2.out.b.cell 1
    have e2 : u2.cell? ⟨g0, 2, none⟩ = some (.int .i64 a2) := H2.out.b.cell 2
    have e3 : u2.cell? ⟨g0, 3, none⟩ = some (.int .i64 a3) := H2.out.b.cell 3
    have e4 : u2.cell? ⟨g0, 4, none⟩ = some (.slice A n cp) := H2.out.b.cell 4
    try simp only [List.cons_append, List.nil_append]
    refine wp_region_held_drew (S := fun wz => Bk wz g0 24 #[.int .i64 a0, .int .i64 a1, .int .i64 a2, .int .i64 a3, .slice A n cp]) (by kernel_rfl) (H2.out.b.drew) (fun hHeld => ?_)
    clear hHeld
    refine gen_hG (fun z => Bk z g0 24 #[.int .i64 a0, .int .i64 a1, .int .i64 a2, .int .i64 a3, .slice A n cp] ∧ Below u2.heap.size u2 z) ⟨H2.out.b.drew, (Below.refl _ _).drew⟩ (fun z hz => ?_)
    have HZ := Lib.hid hz
    have hHeld := hz.1
    clear hz e0 e1 e2 e3 e4
    refine take_at (some 6) (i := 0) (v := ?_) rfl rfl (by kernel_rfl) (by kernel_rfl) (by kernel_rfl) (fun _ _ _ h => h) (Or.inl ⟨by kernel_rfl, ?_⟩) hHeld ?_
    rotate_left
    · intro wz hSw; have m0 : wz.cell? ⟨g0, 0, none⟩ = some (.int .i64 a0) := hSw.cell 0; have m1 : wz.cell? ⟨g0, 1, none⟩ = some (.int .i64 a1) := hSw.cell 1; have m2 : wz.cell? ⟨g0, 2, none⟩ = some (.int .i64 a2) := hSw.cell 2; have m3 : wz.cell? ⟨g0, 3, none⟩ = some (.int .i64 a3) := hSw.cell 3; have m4 : wz.cell? ⟨g0, 4, none⟩ = some (.slice A n cp) := hSw.cell 4; go_simp; try (with_reducible rfl)
    try simp only [Act.put, List.setIfInBounds_toArray, List.set_cons_zero, List.set_cons_succ, List.getElem_toArray, List.getElem_cons_succ, List.getElem_cons_zero]
    refine take_at (some 7) (i := 1) (v := ?_) rfl rfl (by kernel_rfl) (by kernel_rfl) (by kernel_rfl) (fun _ _ _ h => h) (Or.inl ⟨by kernel_rfl, ?_⟩) hHeld ?_
    rotate_left
    · intro wz hSw; have m0 : wz.cell? ⟨g0, 0, none⟩ = some (.int .i64 a0) := hSw.cell 0; have m1 : wz.cell? ⟨g0, 1, none⟩ = some (.int .i64 a1) := hSw.cell 1; have m2 : wz.cell? ⟨g0, 2, none⟩ = some (.int .i64 a2) := hSw.cell 2; have m3 : wz.cell? ⟨g0, 3, none⟩ = some (.int .i64 a3) := hSw.cell 3; have m4 : wz.cell? ⟨g0, 4, none⟩ = some (.slice A n cp) := hSw.cell 4; go_simp; try (with_reducible rfl)
    try simp only [Act.put, List.setIfInBounds_toArray, List.set_cons_zero, List.set_cons_succ, List.getElem_toArray, List.getElem_cons_succ, List.getElem_cons_zero]
    refine take_at (some 8) (i := 2) (v := ?_) rfl rfl (by kernel_rfl) (by kernel_rfl) (by kernel_rfl) (fun _ _ _ h => h) (Or.inl ⟨by kernel_rfl, ?_⟩) hHeld ?_
    rotate_left
    · intro wz hSw; have m0 : wz.cell? ⟨g0, 0, none⟩ = some (.int .i64 a0) := hSw.cell 0; have m1 : wz.cell? ⟨g0, 1, none⟩ = some (.int .i64 a1) := hSw.cell 1; have m2 : wz.cell? ⟨g0, 2, none⟩ = some (.int .i64 a2) := hSw.cell 2; have m3 : wz.cell? ⟨g0, 3, none⟩ = some (.int .i64 a3) := hSw.cell 3; have m4 : wz.cell? ⟨g0, 4, none⟩ = some (.slice A n cp) := hSw.cell 4; go_simp; try (with_reducible rfl)
    try simp only [Act.put, List.setIfInBounds_toArray, List.set_cons_zero, List.set_cons_succ, List.getElem_toArray, List.getElem_cons_succ, List.getElem_cons_zero]
    refine take_at (some 9) (i := 3) (v := ?_) rfl rfl (by kernel_rfl) (by kernel_rfl) (by kernel_rfl) (fun _ _ _ h => h) (Or.inl ⟨by kernel_rfl, ?_⟩) hHeld ?_
    rotate_left
    · intro wz hSw; have m0 : wz.cell? ⟨g0, 0, none⟩ = some (.int .i64 a0) := hSw.cell 0; have m1 : wz.cell? ⟨g0, 1, none⟩ = some (.int .i64 a1) := hSw.cell 1; have m2 : wz.cell? ⟨g0, 2, none⟩ = some (.int .i64 a2) := hSw.cell 2; have m3 : wz.cell? ⟨g0, 3, none⟩ = some (.int .i64 a3) := hSw.cell 3; have m4 : wz.cell? ⟨g0, 4, none⟩ = some (.slice A n cp) := hSw.cell 4; go_simp; try (with_reducible rfl)
    try simp only [Act.put, List.setIfInBounds_toArray, List.set_cons_zero, List.set_cons_succ, List.getElem_toArray, List.getElem_cons_succ, List.getElem_cons_zero]
    refine take_at (some 11) (i := 5) (v := ?_) rfl rfl (by kernel_rfl) (by kernel_rfl) (by kernel_rfl) (fun _ _ _ h => h) (Or.inl ⟨by kernel_rfl, ?_⟩) hHeld ?_
    rotate_left
    · intro wz hSw; have m0 : wz.cell? ⟨g0, 0, none⟩ = some (.int .i64 a0) := hSw.cell 0; have m1 : wz.cell? ⟨g0, 1, none⟩ = some (.int .i64 a1) := hSw.cell 1; have m2 : wz.cell? ⟨g0, 2, none⟩ = some (.int .i64 a2) := hSw.cell 2; have m3 : wz.cell? ⟨g0, 3, none⟩ = some (.int .i64 a3) := hSw.cell 3; have m4 : wz.cell? ⟨g0, 4, none⟩ = some (.slice A n cp) := hSw.cell 4; go_simp; try (with_reducible rfl)
    try simp only [Act.put, List.setIfInBounds_toArray, List.set_cons_zero, List.set_cons_succ, List.getElem_toArray, List.getElem_cons_succ, List.getElem_cons_zero]
    refine take_at (some 12) (i := 6) (v := ?_) rfl rfl (by kernel_rfl) (by kernel_rfl) (by kernel_rfl) (fun _ _ _ h => h) (Or.inl ⟨by kernel_rfl, ?_⟩) hHeld ?_
    rotate_left
    · intro wz hSw; have m0 : wz.cell? ⟨g0, 0, none⟩ = some (.int .i64 a0) := hSw.cell 0; have m1 : wz.cell? ⟨g0, 1, none⟩ = some (.int .i64 a1) := hSw.cell 1; have m2 : wz.cell? ⟨g0, 2, none⟩ = some (.int .i64 a2) := hSw.cell 2; have m3 : wz.cell? ⟨g0, 3, none⟩ = some (.int .i64 a3) := hSw.cell 3; have m4 : wz.cell? ⟨g0, 4, none⟩ = some (.slice A n cp) := hSw.cell 4; go_simp; try (with_reducible rfl)
    try simp only [Act.put, List.setIfInBounds_toArray, List.set_cons_zero, List.set_cons_succ, List.getElem_toArray, List.getElem_cons_succ, List.getElem_cons_zero]
    refine take_at (some 13) (i := 7) (v := ?_) rfl rfl (by kernel_rfl) (by kernel_rfl) (by kernel_rfl) (fun _ _ _ h => h) (Or.inl ⟨by kernel_rfl, ?_⟩) hHeld ?_
    rotate_left
    · intro wz hSw; have m0 : wz.cell? ⟨g0, 0, none⟩ = some (.int .i64 a0) := hSw.cell 0; have m1 : wz.cell? ⟨g0, 1, none⟩ = some (.int .i64 a1) := hSw.cell 1; have m2 : wz.cell? ⟨g0, 2, none⟩ = some (.int .i64 a2) := hSw.cell 2; have m3 : wz.cell? ⟨g0, 3, none⟩ = some (.int .i64 a3) := hSw.cell 3; have m4 : wz.cell? ⟨g0, 4, none⟩ = some (.slice A n cp) := hSw.cell 4; go_simp; try (with_reducible rfl)
    try simp only [Act.put, List.setIfInBounds_toArray, List.set_cons_zero, List.set_cons_succ, List.getElem_toArray, List.getElem_cons_succ, List.getElem_cons_zero]
    refine wpAnyH_ready (rs := [4, 8]) (by kernel_rfl) (by simp) (AllReadyH.cons rfl (fun K hK => ?_) (AllReadyH.cons rfl (fun K hK => ?_) AllReadyH.nil))
    · rw [if_pos (by kernel_rfl)]
      have hmk := mk_ints z n (by omega) (Array.replicate n (Value.int .i64 0)) rfl
      go_simp
      clear hmk
      refine hK.out _ _ (HZ.out.1.alloc _) (fun hHeld => ?_)
      try simp only [Act.put, List.setIfInBounds_toArray, List.set_cons_zero, List.set_cons_succ, List.getElem_toArray, List.getElem_cons_succ, List.getElem_cons_zero]
      refine wpAnyH_ready (rs := [8]) (by kernel_rfl) (by simp) (AllReadyH.cons rfl (fun K hK => ?_) AllReadyH.nil)
      rw [if_pos (by kernel_rfl)]
      have hmk := mk_ints (z.alloc (.cells (Array.replicate n (Value.int .i64 0)) 3)) n (by omega) (Array.replicate n (Value.int .i64 0)) rfl
      go_simp
      clear hmk
      refine hK.out _ _ ((HZ.out.1.alloc _).alloc _) (fun hHeld => ?_)
      try simp only [Act.put, List.setIfInBounds_toArray, List.set_cons_zero, List.set_cons_succ, List.getElem_toArray, List.getElem_cons_succ, List.getElem_cons_zero]
      refine take_at (some 15) (i := 9) (v := ?_) rfl rfl (by kernel_rfl) (by kernel_rfl) (by kernel_rfl) (fun _ _ _ h => h) (Or.inl ⟨by kernel_rfl, ?_⟩) hHeld ?_
      rotate_left
      · intro wz hSw; have m0 : wz.cell? ⟨g0, 0, none⟩ = some (.int .i64 a0) := hSw.cell 0; have m1 : wz.cell? ⟨g0, 1, none⟩ = some (.int .i64 a1) := hSw.cell 1; have m2 : wz.cell? ⟨g0, 2, none⟩ = some (.int .i64 a2) := hSw.cell 2; have m3 : wz.cell? ⟨g0, 3, none⟩ = some (.int .i64 a3) := hSw.cell 3; have m4 : wz.cell? ⟨g0, 4, none⟩ = some (.slice A n cp) := hSw.cell 4; go_simp; try (with_reducible rfl)
      try simp only [Act.put, List.setIfInBounds_toArray, List.set_cons_zero, List.set_cons_succ, List.getElem_toArray, List.getElem_cons_succ, List.getElem_cons_zero]
      refine wpAnyH_ready (rs := [10]) (by kernel_rfl) (by simp) (AllReadyH.cons rfl (fun K hK => ?_) AllReadyH.nil)
      rw [if_pos (by kernel_rfl)]
      go_simp
      refine hK.out _ _ (((HZ.out.1.alloc _).alloc _).alloc _) (fun hHeld => ?_)
      try simp only [Act.put, List.setIfInBounds_toArray, List.set_cons_zero, List.set_cons_succ, List.getElem_toArray, List.getElem_cons_succ, List.getElem_cons_zero]
      refine take_at (some 2) (i := 11) (v := ?_) rfl rfl (by kernel_rfl) (by kernel_rfl) (by kernel_rfl) (fun _ _ _ h => h) (Or.inl ⟨by kernel_rfl, ?_⟩) hHeld ?_
      rotate_left
      · intro wz hSw; have m0 : wz.cell? ⟨g0, 0, none⟩ = some (.int .i64 a0) := hSw.cell 0; have m1 : wz.cell? ⟨g0, 1, none⟩ = some (.int .i64 a1) := hSw.cell 1; have m2 : wz.cell? ⟨g0, 2, none⟩ = some (.int .i64 a2) := hSw.cell 2; have m3 : wz.cell? ⟨g0, 3, none⟩ = some (.int .i64 a3) := hSw.cell 3; have m4 : wz.cell? ⟨g0, 4, none⟩ = some (.slice A n cp) := hSw.cell 4; go_simp; try (with_reducible rfl)
      try simp only [Act.put, List.setIfInBounds_toArray, List.set_cons_zero, List.set_cons_succ, List.getElem_toArray, List.getElem_cons_succ, List.getElem_cons_zero]
      refine wpAnyH_done (by kernel_rfl) ?_ _
      have hsz1 : (z.alloc (.cells (Array.replicate n (Value.int .i64 0)) 3)).heap.size = z.heap.size + 1 := World.size_alloc ..
      have hsz2 : ((z.alloc (.cells (Array.replicate n (Value.int .i64 0)) 3)).alloc (.cells (Array.replicate n (Value.int .i64 0)) 3)).heap.size = z.heap.size + 2 := by rw [World.size_alloc, hsz1]
      have hk1 := ((Bk.new z 3 (Array.replicate n (Value.int .i64 0))).alloc (.cells (Array.replicate n (Value.int .i64 0)) 3)).alloc (.cells #[.int .i64 a0, .int .i64 a1, .int .i64 a2, .int .i64 a3, .slice A n cp, .slice (some ⟨z.heap.size, 0, none⟩) n n, .slice (some ⟨z.heap.size + 1, 0, none⟩) n n] 71)
      have hk2 := (Bk.new (z.alloc (.cells (Array.replicate n (Value.int .i64 0)) 3)) 3 (Array.replicate n (Value.int .i64 0))).alloc (.cells #[.int .i64 a0, .int .i64 a1, .int .i64 a2, .int .i64 a3, .slice A n cp, .slice (some ⟨z.heap.size, 0, none⟩) n n, .slice (some ⟨z.heap.size + 1, 0, none⟩) n n] 71)
      have hk3 := Bk.new ((z.alloc (.cells (Array.replicate n (Value.int .i64 0)) 3)).alloc (.cells (Array.replicate n (Value.int .i64 0)) 3)) 71 #[.int .i64 a0, .int .i64 a1, .int .i64 a2, .int .i64 a3, .slice A n cp, .slice (some ⟨z.heap.size, 0, none⟩) n n, .slice (some ⟨z.heap.size + 1, 0, none⟩) n n]
      rw [hsz1] at hk2
      rw [hsz2] at hk3
      have hl := (((Below.refl z.heap.size z).alloc (Nat.le_refl _) (.cells (Array.replicate n (Value.int .i64 0)) 3)).alloc (by rw [hsz1]; omega) (.cells (Array.replicate n (Value.int .i64 0)) 3)).alloc (by rw [hsz2]; omega) (.cells #[.int .i64 a0, .int .i64 a1, .int .i64 a2, .int .i64 a3, .slice A n cp, .slice (some ⟨z.heap.size, 0, none⟩) n n, .slice (some ⟨z.heap.size + 1, 0, none⟩) n n] 71)
      have hzz := HZ.out.2.size
      have hl2 := HZ.out.2.trans (hl.mono hzz)
      have hz := H2.out.l.size
      have hz2 := HU.out.size
      clear hHeld
      go_wp2
      go_ret
      refine ⟨.inr ⟨rfl, z.heap.size + 2, z.heap.size, z.heap.size + 1, by first | rfl | simp, ?_⟩, ?_⟩
      · refine ⟨?_, ?_, ?_, HU.out.trans ((H2.out.l.trans (hl2.mono hz)).mono hz2), ⟨by omega, by omega⟩, by omega⟩
        · exact hk3
        · rw [ucl_zero, HN.out]; exact hk1
        · rw [ucl_zero, HN.out]; exact hk2
      · exact H2.out.l.trans (hl2.mono hz)
    · rw [if_pos (by kernel_rfl)]
      have hmk := mk_ints z n (by omega) (Array.replicate n (Value.int .i64 0)) rfl
      go_simp
      clear hmk
      refine hK.out _ _ (HZ.out.1.alloc _) (fun hHeld => ?_)
      try simp only [Act.put, List.setIfInBounds_toArray, List.set_cons_zero, List.set_cons_succ, List.getElem_toArray, List.getElem_cons_succ, List.getElem_cons_zero]
      refine wpAnyH_ready (rs := [4]) (by kernel_rfl) (by simp) (AllReadyH.cons rfl (fun K hK => ?_) AllReadyH.nil)
      rw [if_pos (by kernel_rfl)]
      have hmk := mk_ints (z.alloc (.cells (Array.replicate n (Value.int .i64 0)) 3)) n (by omega) (Array.replicate n (Value.int .i64 0)) rfl
      go_simp
      clear hmk
      refine hK.out _ _ ((HZ.out.1.alloc _).alloc _) (fun hHeld => ?_)
      try simp only [Act.put, List.setIfInBounds_toArray, List.set_cons_zero, List.set_cons_succ, List.getElem_toArray, List.getElem_cons_succ, List.getElem_cons_zero]
      refine take_at (some 15) (i := 9) (v := ?_) rfl rfl (by kernel_rfl) (by kernel_rfl) (by kernel_rfl) (fun _ _ _ h => h) (Or.inl ⟨by kernel_rfl, ?_⟩) hHeld ?_
      rotate_left
      · intro wz hSw; have m0 : wz.cell? ⟨g0, 0, none⟩ = some (.int .i64 a0) := hSw.cell 0; have m1 : wz.cell? ⟨g0, 1, none⟩ = some (.int .i64 a1) := hSw.cell 1; have m2 : wz.cell? ⟨g0, 2, none⟩ = some (.int .i64 a2) := hSw.cell 2; have m3 : wz.cell? ⟨g0, 3, none⟩ = some (.int .i64 a3) := hSw.cell 3; have m4 : wz.cell? ⟨g0, 4, none⟩ = some (.slice A n cp) := hSw.cell 4; go_simp; try (with_reducible rfl)
      try simp only [Act.put, List.setIfInBounds_toArray, List.set_cons_zero, List.set_cons_succ, List.getElem_toArray, List.getElem_cons_succ, List.getElem_cons_zero]
      refine wpAnyH_ready (rs := [10]) (by kernel_rfl) (by simp) (AllReadyH.cons rfl (fun K hK => ?_) AllReadyH.nil)
      rw [if_pos (by kernel_rfl)]
      go_simp
      refine hK.out _ _ (((HZ.out.1.alloc _).alloc _).alloc _) (fun hHeld => ?_)
      try simp only [Act.put, List.setIfInBounds_toArray, List.set_cons_zero, List.set_cons_succ, List.getElem_toArray, List.getElem_cons_succ, List.getElem_cons_zero]
      refine take_at (some 2) (i := 11) (v := ?_) rfl rfl (by kernel_rfl) (by kernel_rfl) (by kernel_rfl) (fun _ _ _ h => h) (Or.inl ⟨by kernel_rfl, ?_⟩) hHeld ?_
      rotate_left
      · intro wz hSw; have m0 : wz.cell? ⟨g0, 0, none⟩ = some (.int .i64 a0) := hSw.cell 0; have m1 : wz.cell? ⟨g0, 1, none⟩ = some (.int .i64 a1) := hSw.cell 1; have m2 : wz.cell? ⟨g0, 2, none⟩ = some (.int .i64 a2) := hSw.cell 2; have m3 : wz.cell? ⟨g0, 3, none⟩ = some (.int .i64 a3) := hSw.cell 3; have m4 : wz.cell? ⟨g0, 4, none⟩ = some (.slice A n cp) := hSw.cell 4; go_simp; try (with_reducible rfl)
      try simp only [Act.put, List.setIfInBounds_toArray, List.set_cons_zero, List.set_cons_succ, List.getElem_toArray, List.getElem_cons_succ, List.getElem_cons_zero]
      refine wpAnyH_done (by kernel_rfl) ?_ _
      have hsz1 : (z.alloc (.cells (Array.replicate n (Value.int .i64 0)) 3)).heap.size = z.heap.size + 1 := World.size_alloc ..
      have hsz2 : ((z.alloc (.cells (Array.replicate n (Value.int .i64 0)) 3)).alloc (.cells (Array.replicate n (Value.int .i64 0)) 3)).heap.size = z.heap.size + 2 := by rw [World.size_alloc, hsz1]
      have hk1 := ((Bk.new z 3 (Array.replicate n (Value.int .i64 0))).alloc (.cells (Array.replicate n (Value.int .i64 0)) 3)).alloc (.cells #[.int .i64 a0, .int .i64 a1, .int .i64 a2, .int .i64 a3, .slice A n cp, .slice (some ⟨z.heap.size + 1, 0, none⟩) n n, .slice (some ⟨z.heap.size, 0, none⟩) n n] 71)
      have hk2 := (Bk.new (z.alloc (.cells (Array.replicate n (Value.int .i64 0)) 3)) 3 (Array.replicate n (Value.int .i64 0))).alloc (.cells #[.int .i64 a0, .int .i64 a1, .int .i64 a2, .int .i64 a3, .slice A n cp, .slice (some ⟨z.heap.size + 1, 0, none⟩) n n, .slice (some ⟨z.heap.size, 0, none⟩) n n] 71)
      have hk3 := Bk.new ((z.alloc (.cells (Array.replicate n (Value.int .i64 0)) 3)).alloc (.cells (Array.replicate n (Value.int .i64 0)) 3)) 71 #[.int .i64 a0, .int .i64 a1, .int .i64 a2, .int .i64 a3, .slice A n cp, .slice (some ⟨z.heap.size + 1, 0, none⟩) n n, .slice (some ⟨z.heap.size, 0, none⟩) n n]
      rw [hsz1] at hk2
      rw [hsz2] at hk3
      have hl := (((Below.refl z.heap.size z).alloc (Nat.le_refl _) (.cells (Array.replicate n (Value.int .i64 0)) 3)).alloc (by rw [hsz1]; omega) (.cells (Array.replicate n (Value.int .i64 0)) 3)).alloc (by rw [hsz2]; omega) (.cells #[.int .i64 a0, .int .i64 a1, .int .i64 a2, .int .i64 a3, .slice A n cp, .slice (some ⟨z.heap.size + 1, 0, none⟩) n n, .slice (some ⟨z.heap.size, 0, none⟩) n n] 71)
      have hzz := HZ.out.2.size
      have hl2 := HZ.out.2.trans (hl.mono hzz)
      have hz := H2.out.l.size
      have hz2 := HU.out.size
      clear hHeld
      go_wp2
      go_ret
      refine ⟨.inr ⟨rfl, z.heap.size + 2, z.heap.size + 1, z.heap.size, by first | rfl | simp, ?_⟩, ?_⟩
      · refine ⟨?_, ?_, ?_, HU.out.trans ((H2.out.l.trans (hl2.mono hz)).mono hz2), ⟨by omega, by omega⟩, by omega⟩
        · exact hk3
        · rw [ucl_zero, HN.out]; exact hk2
        · rw [ucl_zero, HN.out]; exact hk1
      · exact H2.out.l.trans (hl2.mono hz)
end Go.Proofs.Ytcplebbaiambgaa

/- Calls of a gate that came in: a slice of structs of a number, a text, a number and an address. -/
namespace Go.Proofs.Ytcplebbaiambgaa
set_option linter.unusedVariables false
set_option maxRecDepth 100000
set_option linter.unusedSimpArgs false
open Go.ChangeShapes Go.WideShapes Go.ChangeAt Go.RowKit Go.Deep

structure Go4 where
  what : Int
  tn : ByteArray
  k : Int
  a : Nat
abbrev g4s (x : Go4) : Array Value := #[.int .i64 x.what, .string x.tn, .int .i64 x.k, .int .u32 (x.a : Int)]
def Go4.sm (x : Go4) : Prop := x.tn.size ≤ 140737488355328 ∧ x.a < 4294967296
instance : Inhabited Go4 := ⟨⟨0, ByteArray.empty, 0, 0⟩⟩
structure InG (W : World) (A : Option Addr) (l : List Go4) (c : Nat) : Prop where
  r : Rw 4 g4s W A l
  f : Fit A l.length c
  n : l.length ≤ 140737488355328
  sm : ∀ x ∈ l, x.sm
theorem InG.on {w w' : World} {A : Option Addr} {l : List Go4} {c : Nat} (h : InG w A l c) (hb : Below w.heap.size w w') : InG w' A l c := ⟨h.r.on hb, h.f, h.n, h.sm⟩
theorem InG.at4 {w : World} {A : Option Addr} {l : List Go4} {c : Nat} (h : InG w A l c) (i : Nat) (hi : i < l.length) :
    ∃ b o x, A = some ⟨b, o, none⟩ ∧ l[i]? = some x ∧ x.sm ∧ ∀ u, Below w.heap.size w u → u.cell? ⟨b, o + i * 4, none⟩ = some (.int .i64 x.what) ∧ u.cell? ⟨b, o + i * 4 + 1, none⟩ = some (.string x.tn) ∧ u.cell? ⟨b, o + i * 4 + 2, none⟩ = some (.int .i64 x.k) ∧ u.cell? ⟨b, o + i * 4 + 3, none⟩ = some (.int .u32 (x.a : Int)) := by
  obtain ⟨b, o, x, h1, h2, h3⟩ := Rw.at_ h.r i hi
  exact ⟨b, o, x, h1, h2, h.sm x (List.mem_of_getElem? h2), fun u hb => ⟨h3 u hb 0 (by omega), h3 u hb 1 (by omega), h3 u hb 2 (by omega), h3 u hb 3 (by omega)⟩⟩

theorem gop_fields : ∃ f0 f1 f2 f3, Try.prog.underlying 35 = some (.struct #[f0, f1, f2, f3]) ∧ f0.type = 3 ∧ f1.type = 9 ∧ f2.type = 3 ∧ f3.type = 33 ∧ oneCellFields Try.prog #[f0, f1, f2, f3] = true := ⟨_, _, _, _, Try.underlying35, rfl, rfl, rfl, rfl, by kernel_rfl⟩
theorem fourV {cs : List Value} (h : cs.length = 4) : ∃ a b c d, cs = [a, b, c, d] := by
  match cs, h with
  | [a, b, c, d], _ => exact ⟨a, b, c, d, rfl⟩
set_option maxRecDepth 100000 in
theorem open_gops {H : Type} {enc : TypeId × Value → H} {W : World} {r : Reach} {b0 : Nat} {v : Value} {d : DataW H} {p : List MemPlace} {ts : List TypeId} {ds : List (DataW H)} {j : Nat} (hv : Value.okWide Try.prog W r b0 25 v) (h : DataW.Trod enc Try.prog W 0 (fun _ => true) true 25 v d p)
    (hz : (DataW.weightsEach Try.prog ts ds).all (· ≤ reachBytes) = true) (hj : ts[j]? = some 25) (hd : ds[j]? = some d) : ∃ A c, ∃ l : List Go4, v = .slice A l.length c ∧ InG W A l c := by
  obtain ⟨f0, f1, f2, f3, hu, t0, t1, t2, t3, hone⟩ := gop_fields
  obtain ⟨A0, n0, c0, rfl⟩ := okWide_slice Try.underlying25 hv
  obtain ⟨fuel, hfu⟩ := h
  have hw : Wt Try.prog 25 d := fun n hn => by
    have := List.all_eq_true.1 hz _ (DataW.weights_mem_each hj hd n hn)
    simpa using this
  have hfu' : DataW.trod enc Try.prog W 0 (fun _ => true) true fuel 25 [.slice A0 n0 c0] = some (d, p) := hfu
  have h0 := open_each Try.underlying25 hu (k := 4) (by kernel_rfl) (of_decide_eq_true (by kernel_rfl)) hfu' hw
  obtain ⟨l, hl, h1, h2, h3, h4⟩ := rw_of (β := Go4) (k := 4) (by omega) (f := g4s) (p := fun x => x.sm) (R := reachBytes) (W := W) (A := A0) (n := n0) (c := c0) (h0.imp id fun ⟨a, e, k1, k2, k3, k4⟩ => ⟨a, e, k1, k2, k3, fun i hi => by
    obtain ⟨cs, fuel', y, q1, q2, q3, q4⟩ := k4 i hi
    obtain ⟨v0, v1, v2, v3, rfl⟩ := fourV q1
    obtain ⟨n0, z0, r0, _⟩ := open_field hu hone q3 q4 0 f0 rfl v0 rfl
    obtain ⟨n1, z1, r1, y1⟩ := open_field hu hone q3 q4 1 f1 rfl v1 rfl
    obtain ⟨n2, z2, r2, _⟩ := open_field hu hone q3 q4 2 f2 rfl v2 rfl
    obtain ⟨n3, z3, r3, _⟩ := open_field hu hone q3 q4 3 f3 rfl v3 rfl
    rw [t0] at r0
    rw [t1] at r1 y1
    rw [t2] at r2
    rw [t3] at r3
    obtain ⟨x0, rfl, _⟩ := open_num Try.underlying3 r0
    obtain ⟨x1, rfl, w1⟩ := open_str Try.underlying9 r1 y1
    obtain ⟨x2, rfl, _⟩ := open_num Try.underlying3 r2
    obtain ⟨x3, rfl, w3⟩ := open_num Try.underlying33 r3
    obtain ⟨b0, b1⟩ := lit_u32 w3
    obtain ⟨y3, rfl⟩ := Int.eq_ofNat_of_zero_le b0
    refine ⟨⟨x0, x1, x2, y3⟩, ⟨w1, by show y3 < 4294967296; omega⟩, fun j hj => ?_⟩
    have := q2 j hj
    rw [this]
    match j, hj with
    | 0, _ => rfl
    | 1, _ => rfl
    | 2, _ => rfl
    | 3, _ => rfl⟩) (fun _ => rfl)
  have h5 : reachBytes < 140737488355328 := reachBytes_lt
  exact ⟨A0, c0, l, by rw [hl], h1, h2, by omega, h4⟩
end Go.Proofs.Ytcplebbaiambgaa

/- great of gate's laws: its contract. -/
namespace Go.Proofs.Ytcplebbaiambgaa
set_option linter.unusedVariables false
set_option maxRecDepth 100000
set_option linter.unusedSimpArgs false
open Go.RowKit

/-- What great leaves. -/
def GgP (l : List Go4) (w : World) (e : Ending) (w' : World) : Prop := ∃ g : Bool, e = .returned (.bool g) ∧ (g = false → l.length ≤ 200) ∧ Below w.heap.size w w'
set_option maxRecDepth 100000 in
set_option maxHeartbeats 4000000 in
theorem ggreat_ok (A : Option Addr) (l : List Go4) (c : Nat) (w : World) (h : InG w A l c) :
    Calls Try.prog 11 #[.slice A l.length c] w (GgP l w) := by
  have HI := Lib.hid h
  have hnb := h.n
  obtain ⟨n, hn⟩ : ∃ n, l.length = n := ⟨_, rfl⟩
  have HN := Lib.hid hn
  rw [hn] at hnb
  rw [hn]
  clear h hn
  go_enter Try.func11, Try.ntmps11
  go_wp2
  go_loopw [3] (fun v3 wr => ∃ (i : Nat), i ≤ n ∧ i ≤ 300 ∧ v3 = .int .i64 (i : Int) ∧ Hid (Below w.heap.size w wr)) (fun v3 _ => n - (intOf v3).toNat)
  case atStart => exact ⟨0, by omega, by omega, rfl, Lib.hid (Below.refl _ _)⟩
  case round =>
    obtain ⟨i, hi, hi300, rfl, HB⟩ := hrel
    by_cases hi1 : i < n
    · have hi2 : (i : Int) < (n : Int) := by omega
      by_cases hj1 : i < 300
      · have hj2 : (i : Int) < 300 := by omega
        obtain ⟨b, o, x, rfl, hx, hsm, hc⟩ := HI.out.at4 i (by rw [HN.out]; exact hi1)
        obtain ⟨c0, c1, c2, c3⟩ := hc wr HB.out
        obtain ⟨xw, xt, xk, xa⟩ := x
        dsimp only at c0 c1 c2 c3
        clear hc hx hsm
        by_cases hm1 : xt.size ≤ 1000
        · have hm2 : ¬ (xt.size : Int) > 1000 := by omega
          have hm3 : ¬ (1000 : Int) < (xt.size : Int) := by omega
          go_wp2
          go_roundw
          case rel => exact ⟨i + 1, by omega, by omega, by go_num, HB⟩
          case measure => simp [intOf]; omega
        · have hm2 : (xt.size : Int) > 1000 := by omega
          have hm3 : (1000 : Int) < (xt.size : Int) := by omega
          go_wp2
          go_ret
          exact ⟨true, rfl, (fun h => by cases h), HB.out⟩
      · have hj2 : ¬ (i : Int) < 300 := by omega
        have hn1 : (200 : Int) < (n : Int) := by omega
        go_wp2
        go_ret
        exact ⟨true, rfl, (fun h => by cases h), HB.out⟩
    · have hi2 : ¬ (i : Int) < (n : Int) := by omega
      by_cases hn1 : (200 : Int) < (n : Int)
      · go_wp2
        go_ret
        exact ⟨true, rfl, (fun h => by cases h), HB.out⟩
      · go_wp2
        go_ret
        exact ⟨false, rfl, (fun _ => by rw [HN.out]; omega), HB.out⟩
end Go.Proofs.Ytcplebbaiambgaa

/- The document's own gate, kept beside the program's: its calls with letters. -/
namespace Go.Proofs.Ytcplebbaiambgaa
set_option linter.unusedVariables false
set_option maxRecDepth 100000
set_option linter.unusedSimpArgs false
open Go.RowKit

theorem grg_ne : (71 : TypeId) ≠ 67 := by decide
theorem gint_ne : (3 : TypeId) ≠ 67 := by decide
theorem gop_int : (35 : TypeId) ≠ 3 := by decide
theorem gcf_int : (24 : TypeId) ≠ 3 := by decide
abbrev rlb (rb bn bv : Nat) (x : Rq) (U : Us) : List (Nat × TypeId × Array Value) := [(rb, 71, x.cs bn bv), (bn, 3, ucl x.ts U 1), (bv, 3, ucl x.ts U 2)]
/-- What does not turn of the document's gate. -/
structure Ph (w : World) (tn : List Tn) (bn bv : Nat) (x : Rq) : Prop where
  hx : RqB w x
  hT : ∀ s, (fT s x.ts).map (·.t) = gtF tn s
  hte : ∀ t ∈ tn, tenB t = true
  lo : w.heap.size ≤ bn ∧ w.heap.size ≤ bv
  ne : bn ≠ bv
section
variable {w u u' : World} {tn : List Tn} {Gs : List Ga} {rb bn bv : Nat} {x : Rq} {U U' : Us} {L : List (Nat × TypeId × Array Value)}
theorem Lg.rg (h : Lg w tn Gs (rlb rb bn bv x U ++ L) u) (P : Ph w tn bn bv x) : Rg w rb bn bv x U u :=
  ⟨h.bk (List.mem_append_left _ (by simp)), h.bk (List.mem_append_left _ (by simp)), h.bk (List.mem_append_left _ (by simp)), h.l, P.lo, P.ne⟩
theorem Lg.ki (h : Lg w tn Gs (rlb rb bn bv x U ++ L) u) (hL : ∀ b ∈ L, b.2.1 ≠ 3) (r : Rg w rb bn bv x U' u') (K : Ki w.heap.size u u') : Lg w tn Gs (rlb rb bn bv x U' ++ L) u' := by
  have hsz : u.heap.size ≤ u'.heap.size := by obtain ⟨_, _, hk⟩ := K; exact hk.size
  refine ⟨fun G hG => ⟨(h.z G hG).1.ki K, (h.z G hG).2.1, (h.z G hG).2.2.1, Nat.le_trans (h.z G hG).2.2.2 hsz⟩, h.ap, fun b hb => ?_, r.l⟩
  rcases List.mem_append.1 hb with hb | hb
  · simp only [List.mem_cons, List.not_mem_nil, or_false] at hb
    rcases hb with rfl | rfl | rfl
    · exact ⟨r.blk, grg_ne⟩
    · exact ⟨r.nn, gint_ne⟩
    · exact ⟨r.vv, gint_ne⟩
  · exact ⟨(h.kb b (List.mem_append_right _ hb)).1.ki K (hL b hb), (h.kb b (List.mem_append_right _ hb)).2⟩
theorem pl_used (P : Ph w tn bn bv x) (h : Lg w tn Gs (rlb rb bn bv x U ++ L) u) (hlim : LimU tn U) (s : ByteArray) (k : Int) :
    Calls Try.prog 21 #[.pointer (some ⟨rb, 0, none⟩), .string s, .int .i64 k] u fun e u' => e = .returned (.int .i64 (U s k : Int)) ∧ Lg w tn Gs (rlb rb bn bv x U ++ L) u' :=
  (rused_ok w rb bn bv x U u (h.rg P) P.hx tn P.hT hlim s k).mono fun e u' hh => ⟨hh.1, h.on hh.2⟩
theorem pl_admit (P : Ph w tn bn bv x) (h : Lg w tn Gs (rlb rb bn bv x U ++ L) u) (s : ByteArray) (a : Nat) (ha : a < 4294967296) :
    Calls Try.prog 17 #[.pointer (some ⟨rb, 0, none⟩), .string s, .int .u32 (a : Int)] u fun e u' => e = .returned (.int .i64 (adI (gtF tn s) a)) ∧ Lg w tn Gs (rlb rb bn bv x U ++ L) u' :=
  (radmit_ok w rb bn bv x U u (h.rg P) P.hx tn P.hT P.hte s a ha).mono fun e u' hh => ⟨hh.1, h.on hh.2⟩
theorem pl_take (P : Ph w tn bn bv x) (h : Lg w tn Gs (rlb rb bn bv x U ++ L) u) (hL : ∀ b ∈ L, b.2.1 ≠ 3) (hlim : LimU tn U) (s : ByteArray) (k : Int) :
    Calls Try.prog 19 #[.pointer (some ⟨rb, 0, none⟩), .string s, .int .i64 k] u fun e u' => e = .returned (.int .i64 (tkI (gtF tn s) (U s k) k)) ∧ Lg w tn Gs (rlb rb bn bv x (tkU (gtF tn s) U s k) ++ L) u' := by
  rcases em3 k with rfl | rfl | ⟨h1, h2⟩
  · exact (rtake1_ok w rb bn bv x U u (h.rg P) P.hx tn P.hT P.hte hlim s).mono fun e u' hh => ⟨hh.e, h.ki hL hh.r hh.k⟩
  · exact (rtake2_ok w rb bn bv x U u (h.rg P) P.hx tn P.hT P.hte hlim s).mono fun e u' hh => ⟨hh.e, h.ki hL hh.r hh.k⟩
  · exact (rtake0_ok w rb bn bv x U u (h.rg P) tn s k h1 h2).mono fun e u' hh => ⟨hh.e, h.ki hL hh.r hh.k⟩
theorem pl_give (P : Ph w tn bn bv x) (h : Lg w tn Gs (rlb rb bn bv x U ++ L) u) (hL : ∀ b ∈ L, b.2.1 ≠ 3) (hlim : LimU tn U) (h8 : ∀ a j, U a j ≤ 8) (s : ByteArray) (k : Int) :
    Calls Try.prog 15 #[.pointer (some ⟨rb, 0, none⟩), .string s, .int .i64 k] u fun e u' => e = .returned (.bool (gvB U s k)) ∧ Lg w tn Gs (rlb rb bn bv x (gvU U s k) ++ L) u' := by
  rcases em3 k with rfl | rfl | ⟨h1, h2⟩
  · exact (rgive1_ok w rb bn bv x U u (h.rg P) P.hx tn P.hT hlim h8 s).mono fun e u' hh => ⟨hh.1, h.ki hL hh.2.1 hh.2.2⟩
  · exact (rgive2_ok w rb bn bv x U u (h.rg P) P.hx tn P.hT hlim h8 s).mono fun e u' hh => ⟨hh.1, h.ki hL hh.2.1 hh.2.2⟩
  · exact (rgive0_ok w rb bn bv x U u (h.rg P) P.hx tn P.hT hlim s k h1 h2).mono fun e u' hh => ⟨hh.1, h.ki hL hh.2.1 hh.2.2⟩
/-- The two gates side by side, just made. -/
theorem Lg.both (h : Lg w tn Gs L u) (hb : Below u.heap.size u u') (r : Rg w rb bn bv x U u') : Lg w tn Gs (rlb rb bn bv x U ++ L) u' := by
  have h2 := h.on hb
  refine ⟨h2.z, h2.ap, fun b hb => ?_, h2.l⟩
  rcases List.mem_append.1 hb with hb | hb
  · simp only [List.mem_cons, List.not_mem_nil, or_false] at hb
    rcases hb with rfl | rfl | rfl
    · exact ⟨r.blk, grg_ne⟩
    · exact ⟨r.nn, gint_ne⟩
    · exact ⟨r.vv, gint_ne⟩
  · exact h2.kb b hb
end
theorem rgnew_no {x : Cv} {w : World} (h : RC w x) (hc : cfgB x.cg = false) : ∀ u, Below w.heap.size w u → Calls Try.prog 13 #[.agg (ccs x)] u fun e u' => e = .returned (.pointer none) ∧ Below u.heap.size u u' := fun u hu =>
  (rgnew_ok x w h u hu).mono fun e u' hh => by
    obtain ⟨⟨_, h1⟩ | ⟨h1, _⟩, hb⟩ := hh
    · exact ⟨h1, hb⟩
    · rw [hc] at h1; cases h1
theorem rgnew_yes {x : Cv} {w : World} (h : RC w x) (hc : cfgB x.cg = true) : ∀ u Gs (L : List (Nat × TypeId × Array Value)), Lg w x.cg.tens Gs L u → Calls Try.prog 13 #[.agg (ccs x)] u fun e u' => ∃ rb bn bv, e = .returned (.pointer (some ⟨rb, 0, none⟩)) ∧ Ph w x.cg.tens bn bv ⟨x.wait, x.grace, x.idle, x.lease, x.A, x.ts.length, x.c, x.ts⟩ ∧ Lg w x.cg.tens Gs (rlb rb bn bv ⟨x.wait, x.grace, x.idle, x.lease, x.A, x.ts.length, x.c, x.ts⟩ U0 ++ L) u' := fun u Gs L hu =>
  (rgnew_ok x w h u hu.l).mono fun e u' hh => by
    obtain ⟨⟨h1, _⟩ | ⟨_, rb, bn, bv, h1, h2⟩, hb⟩ := hh
    · rw [hc] at h1; cases h1
    · exact ⟨rb, bn, bv, h1, ⟨rq_of h hc, fun s => gtF_tens s x.ts, (cfgB_parts hc).2.2.2.2.2.2, h2.lo, h2.ne⟩, hu.both hb h2⟩
end Go.Proofs.Ytcplebbaiambgaa
