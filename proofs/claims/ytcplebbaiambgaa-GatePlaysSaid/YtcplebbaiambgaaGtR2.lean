/- The document's own gate: add, Take, Give, Admit, New: their contracts. (Written by gen_gtref2.py.) -/
import Derived.Test.YtcplebbaiambgaaG11
namespace Go.Proofs.Ytcplebbaiambgaa
set_option linter.unusedVariables false
set_option maxRecDepth 100000
set_option linter.unusedSimpArgs false
open Go.RowKit

theorem Ki.of1 {lo b : Nat} {u u' : World} {cs : Array Value} (h : Bk u b 3 cs) (hlo : lo ≤ b) (k : Ke [b] u u') : Ki lo u u' := ⟨[b], (fun x hx => by obtain rfl := List.mem_singleton.1 hx; exact ⟨hlo, cs, h⟩), k⟩
theorem Ki.thenOf {lo : Nat} {a b c : World} (h : Ki lo b c) (hb : Below a.heap.size a b) (hlo : ∀ x cs, Bk b x 3 cs → lo ≤ x → x < a.heap.size → Bk a x 3 cs) : Ki lo a c := by
  obtain ⟨L, hL, hk⟩ := h
  refine ⟨L.filter (fun x => decide (x < a.heap.size)), fun x hx => ?_, ⟨hk.os.trans hb.os, hk.tape.trans hb.tape, hk.output.trans hb.output, Nat.le_trans hb.size hk.size, fun i hi hn => ?_⟩⟩
  · obtain ⟨h1, h2⟩ := List.mem_filter.1 hx
    obtain ⟨h3, cs, h4⟩ := hL x h1
    exact ⟨h3, cs, hlo x cs h4 h3 (of_decide_eq_true h2)⟩
  · rw [hk.block i (Nat.lt_of_lt_of_le hi hb.size) (fun hL' => hn (List.mem_filter.2 ⟨hL', decide_eq_true hi⟩)), hb.block i hi]
theorem Ki.after {lo : Nat} {a b c : World} (h : Ki lo b c) (hb : Below a.heap.size a b) : Ki lo a c := h.thenOf hb (fun x cs hx _ hlt => (hb.block x hlt).symm.trans hx)
/-- What add leaves: each of the two rows turned at one place. -/
structure RaQ (w : World) (rb bn bv : Nat) (x : Rq) (V : Us) (u : World) (e : Ending) (u' : World) : Prop where
  e : e = .returned (.tuple #[])
  r : Rg w rb bn bv x V u'
  k : Ki w.heap.size u u'
set_option maxRecDepth 100000 in
set_option maxHeartbeats 4000000 in
theorem radd1_ok (w : World) (rb bn bv : Nat) (x : Rq) (U : Us) (u : World) (h : Rg w rb bn bv x U u) (hx : RqB w x) (s : ByteArray) (hs : ¬ fT s x.ts = none) (d : Int) (v : Nat) (hv : (U s 1 : Int) + d = (v : Int)) (h8 : U s 1 ≤ 1000) (h9 : v ≤ 1000) :
    Calls Try.prog 29 #[.pointer (some ⟨rb, 0, none⟩), .string s, .int .i64 1, .int .i64 d] u (RaQ w rb bn bv x (stU U s 1 v) u) := by
  have HPL := Lib.hid (rplace_ok w rb bn bv x U u h hx s)
  have HH := Lib.hid h
  have HX := Lib.hid hx
  have HS := Lib.hid hs
  have HV := Lib.hid hv
  obtain ⟨m, hm⟩ : ∃ m, U s 1 = m := ⟨_, rfl⟩
  have HM := Lib.hid hm
  rw [hm] at hv h8
  have hf := hx.few
  obtain ⟨n, hn⟩ : ∃ n, x.n = n := ⟨_, rfl⟩
  have HN := Lib.hid hn
  rw [hn] at hf
  have hw : IntKind.i64.wrap ((m : Int) + d) = (v : Int) := (iwrap _ v hv (by omega)).1
  clear h hx hs hm hn hv
  go_enter Try.func29, Try.ntmps29
  go_upto_region 1 with (go_at_call 34; refine HPL.out.mono ?_; rintro e u2 ⟨hp, hb⟩; have HB := Lib.hid hb; have HP := Lib.hid hp; clear hp hb; rcases HP.out with ⟨hn, rfl⟩ | ⟨i, y, hy, hfy, hs, rfl⟩)
  · exact absurd hn HS.out
  · have HR2 := Lib.hid (HH.out.on HB.out)
    have HY := Lib.hid (And.intro hy hs)
    have hi : i < n := by rw [← HN.out, ← HX.out.n]; exact (List.getElem?_eq_some_iff.1 hy).1
    have hi0 : ¬ (i : Int) < 0 := by omega
    have hi2 : (i : Int) < (n : Int) := by omega
    have hi3 : (0 : Int) ≤ (i : Int) := by omega
    have q5 : u2.cell? ⟨rb, 5, none⟩ = some (.slice (some ⟨bn, 0, none⟩) n n) := by rw [← HN.out]; exact HR2.out.blk.cell 5
    have p1 : u2.cell? ⟨bn, i, none⟩ = some (.int .i64 (m : Int)) := by rw [← HM.out, ← hs]; exact (HR2.out.nn.cell i).trans (ucl_at hy)
    have f1 : u2.frozen? ⟨bn, i, none⟩ = false := HR2.out.nn.frozen i
    clear hy hfy hs HP
    go_wp2
    go_region
    go_wp2
    have hk := (HR2.out.nn.drewN 1).set i (.int .i64 (v : Int))
    rw [ucl_set HX.out.nd HY.out.1 HY.out.2] at hk
    have hne : rb ≠ bn := fun e => by
      have h1 : u2.heap[rb]? = some (.cells _ 71) := HR2.out.blk
      have h2 : u2.heap[bn]? = some (.cells _ 3) := HR2.out.nn
      rw [← e, h1] at h2
      injection h2 with h2
      injection h2 with _ h3
      exact absurd h3 (by decide)
    have hke : Ke [bn] u2 ((u2.drewN 1).setCell ⟨bn, i, none⟩ (.int .i64 (v : Int))) := (Ke.drawn [bn] u2 1).set (p := ⟨bn, i, none⟩) (by simp) _
    have hki : Ki w.heap.size u2 ((u2.drewN 1).setCell ⟨bn, i, none⟩ (.int .i64 (v : Int))) := Ki.of1 HR2.out.nn HR2.out.lo.1 hke
    go_end0
    refine ⟨rfl, ⟨(HR2.out.blk.drewN 1).far (p := ⟨bn, i, none⟩) hne _, ?_, ?_, HR2.out.l.trans (hki.below HR2.out.l.size), HR2.out.lo, HR2.out.ne⟩, hki.after HB.out⟩
    · exact hk
    · rw [ucl_other (by decide)]; exact (HR2.out.vv.drewN 1).far (p := ⟨bn, i, none⟩) (fun e => HR2.out.ne e.symm) _
set_option maxRecDepth 100000 in
set_option maxHeartbeats 4000000 in
theorem radd2_ok (w : World) (rb bn bv : Nat) (x : Rq) (U : Us) (u : World) (h : Rg w rb bn bv x U u) (hx : RqB w x) (s : ByteArray) (hs : ¬ fT s x.ts = none) (d : Int) (v : Nat) (hv : (U s 2 : Int) + d = (v : Int)) (h8 : U s 2 ≤ 1000) (h9 : v ≤ 1000) :
    Calls Try.prog 29 #[.pointer (some ⟨rb, 0, none⟩), .string s, .int .i64 2, .int .i64 d] u (RaQ w rb bn bv x (stU U s 2 v) u) := by
  have HPL := Lib.hid (rplace_ok w rb bn bv x U u h hx s)
  have HH := Lib.hid h
  have HX := Lib.hid hx
  have HS := Lib.hid hs
  have HV := Lib.hid hv
  obtain ⟨m, hm⟩ : ∃ m, U s 2 = m := ⟨_, rfl⟩
  have HM := Lib.hid hm
  rw [hm] at hv h8
  have hf := hx.few
  obtain ⟨n, hn⟩ : ∃ n, x.n = n := ⟨_, rfl⟩
  have HN := Lib.hid hn
  rw [hn] at hf
  have hw : IntKind.i64.wrap ((m : Int) + d) = (v : Int) := (iwrap _ v hv (by omega)).1
  clear h hx hs hm hn hv
  go_enter Try.func29, Try.ntmps29
  go_upto_region 1 with (go_at_call 34; refine HPL.out.mono ?_; rintro e u2 ⟨hp, hb⟩; have HB := Lib.hid hb; have HP := Lib.hid hp; clear hp hb; rcases HP.out with ⟨hn, rfl⟩ | ⟨i, y, hy, hfy, hs, rfl⟩)
  · exact absurd hn HS.out
  · have HR2 := Lib.hid (HH.out.on HB.out)
    have HY := Lib.hid (And.intro hy hs)
    have hi : i < n := by rw [← HN.out, ← HX.out.n]; exact (List.getElem?_eq_some_iff.1 hy).1
    have hi0 : ¬ (i : Int) < 0 := by omega
    have hi2 : (i : Int) < (n : Int) := by omega
    have hi3 : (0 : Int) ≤ (i : Int) := by omega
    have q5 : u2.cell? ⟨rb, 6, none⟩ = some (.slice (some ⟨bv, 0, none⟩) n n) := by rw [← HN.out]; exact HR2.out.blk.cell 6
    have p1 : u2.cell? ⟨bv, i, none⟩ = some (.int .i64 (m : Int)) := by rw [← HM.out, ← hs]; exact (HR2.out.vv.cell i).trans (ucl_at hy)
    have f1 : u2.frozen? ⟨bv, i, none⟩ = false := HR2.out.vv.frozen i
    clear hy hfy hs HP
    go_wp2
    go_region
    go_wp2
    have hk := (HR2.out.vv.drewN 1).set i (.int .i64 (v : Int))
    rw [ucl_set HX.out.nd HY.out.1 HY.out.2] at hk
    have hne : rb ≠ bv := fun e => by
      have h1 : u2.heap[rb]? = some (.cells _ 71) := HR2.out.blk
      have h2 : u2.heap[bv]? = some (.cells _ 3) := HR2.out.vv
      rw [← e, h1] at h2
      injection h2 with h2
      injection h2 with _ h3
      exact absurd h3 (by decide)
    have hke : Ke [bv] u2 ((u2.drewN 1).setCell ⟨bv, i, none⟩ (.int .i64 (v : Int))) := (Ke.drawn [bv] u2 1).set (p := ⟨bv, i, none⟩) (by simp) _
    have hki : Ki w.heap.size u2 ((u2.drewN 1).setCell ⟨bv, i, none⟩ (.int .i64 (v : Int))) := Ki.of1 HR2.out.vv HR2.out.lo.2 hke
    go_end0
    refine ⟨rfl, ⟨(HR2.out.blk.drewN 1).far (p := ⟨bv, i, none⟩) hne _, ?_, ?_, HR2.out.l.trans (hki.below HR2.out.l.size), HR2.out.lo, HR2.out.ne⟩, hki.after HB.out⟩
    · rw [ucl_other (by decide)]; exact (HR2.out.nn.drewN 1).far (p := ⟨bv, i, none⟩) HR2.out.ne _
    · exact hk

/-- What Take leaves. -/
structure RtQ (w : World) (rb bn bv : Nat) (x : Rq) (n : Int) (V : Us) (u : World) (e : Ending) (u' : World) : Prop where
  e : e = .returned (.int .i64 n)
  r : Rg w rb bn bv x V u'
  k : Ki w.heap.size u u'
theorem rg_cells {w : World} {rb bn bv : Nat} {x : Rq} {U : Us} {u : World} (h : Rg w rb bn bv x U u) : ∀ u', Below u.heap.size u u' → u'.cell? ⟨rb, 0, none⟩ = some (.int .i64 x.a0) ∧ u'.cell? ⟨rb, 1, none⟩ = some (.int .i64 x.a1) ∧ u'.cell? ⟨rb, 2, none⟩ = some (.int .i64 x.a2) ∧ u'.cell? ⟨rb, 3, none⟩ = some (.int .i64 x.a3) ∧ u'.cell? ⟨rb, 4, none⟩ = some (.slice x.A x.n x.c) := fun u' hb =>
  ⟨(h.blk.below hb h.blk.lt).cell 0, (h.blk.below hb h.blk.lt).cell 1, (h.blk.below hb h.blk.lt).cell 2, (h.blk.below hb h.blk.lt).cell 3, (h.blk.below hb h.blk.lt).cell 4⟩
set_option maxRecDepth 100000 in
set_option maxHeartbeats 1000000 in
theorem rtake0_ok (w : World) (rb bn bv : Nat) (x : Rq) (U : Us) (u : World) (h : Rg w rb bn bv x U u) (tn : List Tn) (s : ByteArray) (k : Int) (h1 : ¬ k = 1) (h2 : ¬ k = 2) :
    Calls Try.prog 19 #[.pointer (some ⟨rb, 0, none⟩), .string s, .int .i64 k] u (RtQ w rb bn bv x (tkI (gtF tn s) (U s k) k) (tkU (gtF tn s) U s k) u) := by
  have HT := Lib.hid (tk_not (o := gtF tn s) (U := U) (s := s) (k := k) (by unfold cnB; rw [decide_eq_false h1, decide_eq_false h2]; rfl))
  rw [HT.out.1, HT.out.2]
  have hk3 : (k != 1) = true := by rw [bne_iff_ne]; exact h1
  have hk4 : (k != 2) = true := by rw [bne_iff_ne]; exact h2
  have H := Lib.hid h
  clear h h1 h2
  go_enter Try.func19, Try.ntmps19
  go_wp2
  go_ret
  exact ⟨rfl, H.out, Ki.of (Below.refl _ _)⟩
set_option maxRecDepth 100000 in
set_option maxHeartbeats 4000000 in
theorem rtake1_ok (w : World) (rb bn bv : Nat) (x : Rq) (U : Us) (u : World) (h : Rg w rb bn bv x U u) (hx : RqB w x) (tn : List Tn) (hT : ∀ s, (fT s x.ts).map (·.t) = gtF tn s) (hte : ∀ t ∈ tn, tenB t = true) (hlim : LimU tn U) (s : ByteArray) :
    Calls Try.prog 19 #[.pointer (some ⟨rb, 0, none⟩), .string s, .int .i64 1] u (RtQ w rb bn bv x (tkI (gtF tn s) (U s 1) 1) (tkU (gtF tn s) U s 1) u) := by
  have HC := Lib.hid (rg_cells h)
  have HFI := Lib.hid (fun v (hv : Below w.heap.size w v) => rfind_ok (.int .i64 x.a0) (.int .i64 x.a1) (.int .i64 x.a2) (.int .i64 x.a3) x.A x.ts x.n x.c s v (hx.r.on hv) hx.n (by have := hx.few; omega))
  have HFN := Lib.hid (find_num hT hte s)
  have HUS := Lib.hid (fun v (hv : Below u.heap.size u v) => rused_ok w rb bn bv x U v (h.on hv) hx tn hT hlim s 1)
  have HAD := Lib.hid (fun v (hv : Below u.heap.size u v) => radd1_ok w rb bn bv x U v (h.on hv) hx s)
  have HH := Lib.hid h
  obtain ⟨a0, a1, a2, a3, A, n, c, ts⟩ := x
  dsimp only at HC HFI HFN HAD
  obtain ⟨⟨⟨yn, ya, yb, ynl, ykl⟩, yAn, ycn, yAk, yck⟩, hy⟩ : ∃ y, (fT s ts).getD zeroTv = y := ⟨_, rfl⟩
  obtain ⟨F, hF⟩ : ∃ F, gtF tn s = F := ⟨_, rfl⟩
  rw [hy] at HFI HFN
  rw [hF] at HFN ⊢
  obtain ⟨M, hM⟩ : ∃ M, mxO F 1 = M := ⟨_, rfl⟩
  have HM := Lib.hid hM
  obtain ⟨f1, f2, f3, f4, f5, f6⟩ := HFN.out
  have HIS := Lib.hid (show (fT s ts).isSome = F.isSome from f3)
  have HNO := Lib.hid (show (fT s ts).isSome = true → ¬ fT s ts = none from fun h e => by rw [e] at h; cases h)
  rw [f3] at HFI HNO
  have hMn : M ≤ 8 := by omega
  have hyk : ya = (M : Int) := by rw [← hM]; exact f1
  obtain ⟨is, his⟩ : ∃ is, F.isSome = is := ⟨_, rfl⟩
  rw [his] at HFI HNO
  have HI2 := Lib.hid his
  have HLM := Lib.hid (show U s 1 ≤ M by have := hlim s 1; rw [hF, hM] at this; exact this)
  simp only [tcs] at HFI
  rw [hyk] at HFI
  clear h hx hT hte hlim hy hF hM f1 f2 f3 f4 f5 f6 HFN his hyk
  obtain ⟨m, hm⟩ : ∃ m, U s 1 = m := ⟨_, rfl⟩
  have HMU := Lib.hid hm
  simp only [hm] at HUS HAD HLM ⊢
  clear hm
  have L0 := HH.out.l
  obtain ⟨c0, c1, c2, c3, c4⟩ := HC.out u (Below.refl _ _)
  have HL0 := Lib.hid L0
  clear L0
  go_enter Try.func19, Try.ntmps19
  cases is with
  | false =>
    have HT := Lib.hid (tk_none (o := F) (U := U) (s := s) (k := 1) rfl HI2.out)
    go_wp2_with (go_at_call 22; (with_reducible refine (HFI.out _ HL0.out).mono ?_); rintro e u2 ⟨rfl, hb⟩; have HB := Lib.hid hb; clear hb)
    go_ret
    rw [← HMU.out, HT.out.1, HT.out.2]
    have hb3 := HB.out.alloc HB.out.size (.cells #[.string yn, .int .i64 (M : Int), .int .i64 yb, .slice yAn ynl.length ycn, .slice yAk ykl.length yck] 45)
    exact ⟨rfl, HH.out.on hb3, Ki.of hb3⟩
  | true =>
    by_cases hq : m < M
    · have HT := Lib.hid (tk_yes (o := F) (U := U) (s := s) (k := 1) rfl HI2.out (by rw [HM.out, HMU.out]; exact hq))
      have hq1 : ¬ (M : Int) ≤ (m : Int) := by omega
      have hq2 : ¬ M ≤ m := by omega
      have HAD2 := Lib.hid (fun v (hv : Below u.heap.size u v) => HAD.out v hv (HNO.out rfl) 1 (m + 1) (by omega) (by omega) (by omega))
      go_upto_region 11 with (first
        | (go_at_call 22; (with_reducible refine (HFI.out _ HL0.out).mono ?_); rintro e u2 ⟨rfl, hb⟩; have HB := Lib.hid (hb.alloc hb.size (.cells #[.string yn, .int .i64 (M : Int), .int .i64 yb, .slice yAn ynl.length ycn, .slice yAk ykl.length yck] 45)); have HN := Lib.hid (Bk.new u2 45 #[.string yn, .int .i64 (M : Int), .int .i64 yb, .slice yAn ynl.length ycn, .slice yAk ykl.length yck]); have t1 : (u2.alloc (.cells #[.string yn, .int .i64 (M : Int), .int .i64 yb, .slice yAn ynl.length ycn, .slice yAk ykl.length yck] 45)).cell? ⟨u2.heap.size, 1, none⟩ = some (.int .i64 (M : Int)) := HN.out.cell 1; have t2 : (u2.alloc (.cells #[.string yn, .int .i64 (M : Int), .int .i64 yb, .slice yAn ynl.length ycn, .slice yAk ykl.length yck] 45)).cell? ⟨u2.heap.size, 2, none⟩ = some (.int .i64 yb) := HN.out.cell 2; clear hb)
        | (go_at_call 21; (with_reducible refine (HUS.out _ HB.out).mono ?_); rintro e u3 ⟨rfl, hb⟩; have HB3 := Lib.hid (HB.out.trans (hb.mono HB.out.size)); clear hb t1 t2))
      go_wp2_with (go_at_call 29; (with_reducible refine (HAD2.out _ HB3.out).mono ?_); rintro e u4 ⟨rfl, hr, hk⟩; have HR := Lib.hid hr; have HK := Lib.hid hk; clear hr hk)
      go_ret
      rw [← HMU.out, HT.out.1, HT.out.2, HMU.out]
      exact ⟨rfl, HR.out, HK.out.after HB3.out⟩
    · have HT := Lib.hid (tk_full (o := F) (U := U) (s := s) (k := 1) rfl HI2.out (by rw [HM.out, HMU.out]; omega))
      have hq1 : (M : Int) ≤ (m : Int) := by omega
      have hq2 : M ≤ m := by omega
      go_wp2_with (first
        | (go_at_call 22; (with_reducible refine (HFI.out _ HL0.out).mono ?_); rintro e u2 ⟨rfl, hb⟩; have HB := Lib.hid (hb.alloc hb.size (.cells #[.string yn, .int .i64 (M : Int), .int .i64 yb, .slice yAn ynl.length ycn, .slice yAk ykl.length yck] 45)); have HN := Lib.hid (Bk.new u2 45 #[.string yn, .int .i64 (M : Int), .int .i64 yb, .slice yAn ynl.length ycn, .slice yAk ykl.length yck]); have t1 : (u2.alloc (.cells #[.string yn, .int .i64 (M : Int), .int .i64 yb, .slice yAn ynl.length ycn, .slice yAk ykl.length yck] 45)).cell? ⟨u2.heap.size, 1, none⟩ = some (.int .i64 (M : Int)) := HN.out.cell 1; have t2 : (u2.alloc (.cells #[.string yn, .int .i64 (M : Int), .int .i64 yb, .slice yAn ynl.length ycn, .slice yAk ykl.length yck] 45)).cell? ⟨u2.heap.size, 2, none⟩ = some (.int .i64 yb) := HN.out.cell 2; clear hb)
        | (go_at_call 21; (with_reducible refine (HUS.out _ HB.out).mono ?_); rintro e u3 ⟨rfl, hb⟩; have HB3 := Lib.hid (HB.out.trans (hb.mono HB.out.size)); clear hb t1 t2))
      go_ret
      rw [← HMU.out, HT.out.1, HT.out.2]
      exact ⟨rfl, HH.out.on HB3.out, Ki.of HB3.out⟩
set_option maxRecDepth 100000 in
set_option maxHeartbeats 4000000 in
theorem rtake2_ok (w : World) (rb bn bv : Nat) (x : Rq) (U : Us) (u : World) (h : Rg w rb bn bv x U u) (hx : RqB w x) (tn : List Tn) (hT : ∀ s, (fT s x.ts).map (·.t) = gtF tn s) (hte : ∀ t ∈ tn, tenB t = true) (hlim : LimU tn U) (s : ByteArray) :
    Calls Try.prog 19 #[.pointer (some ⟨rb, 0, none⟩), .string s, .int .i64 2] u (RtQ w rb bn bv x (tkI (gtF tn s) (U s 2) 2) (tkU (gtF tn s) U s 2) u) := by
  have HC := Lib.hid (rg_cells h)
  have HFI := Lib.hid (fun v (hv : Below w.heap.size w v) => rfind_ok (.int .i64 x.a0) (.int .i64 x.a1) (.int .i64 x.a2) (.int .i64 x.a3) x.A x.ts x.n x.c s v (hx.r.on hv) hx.n (by have := hx.few; omega))
  have HFN := Lib.hid (find_num hT hte s)
  have HUS := Lib.hid (fun v (hv : Below u.heap.size u v) => rused_ok w rb bn bv x U v (h.on hv) hx tn hT hlim s 2)
  have HAD := Lib.hid (fun v (hv : Below u.heap.size u v) => radd2_ok w rb bn bv x U v (h.on hv) hx s)
  have HH := Lib.hid h
  obtain ⟨a0, a1, a2, a3, A, n, c, ts⟩ := x
  dsimp only at HC HFI HFN HAD
  obtain ⟨⟨⟨yn, ya, yb, ynl, ykl⟩, yAn, ycn, yAk, yck⟩, hy⟩ : ∃ y, (fT s ts).getD zeroTv = y := ⟨_, rfl⟩
  obtain ⟨F, hF⟩ : ∃ F, gtF tn s = F := ⟨_, rfl⟩
  rw [hy] at HFI HFN
  rw [hF] at HFN ⊢
  obtain ⟨M, hM⟩ : ∃ M, mxO F 2 = M := ⟨_, rfl⟩
  have HM := Lib.hid hM
  obtain ⟨f1, f2, f3, f4, f5, f6⟩ := HFN.out
  have HIS := Lib.hid (show (fT s ts).isSome = F.isSome from f3)
  have HNO := Lib.hid (show (fT s ts).isSome = true → ¬ fT s ts = none from fun h e => by rw [e] at h; cases h)
  rw [f3] at HFI HNO
  have hMn : M ≤ 8 := by omega
  have hyk : yb = (M : Int) := by rw [← hM]; exact f2
  obtain ⟨is, his⟩ : ∃ is, F.isSome = is := ⟨_, rfl⟩
  rw [his] at HFI HNO
  have HI2 := Lib.hid his
  have HLM := Lib.hid (show U s 2 ≤ M by have := hlim s 2; rw [hF, hM] at this; exact this)
  simp only [tcs] at HFI
  rw [hyk] at HFI
  clear h hx hT hte hlim hy hF hM f1 f2 f3 f4 f5 f6 HFN his hyk
  obtain ⟨m, hm⟩ : ∃ m, U s 2 = m := ⟨_, rfl⟩
  have HMU := Lib.hid hm
  simp only [hm] at HUS HAD HLM ⊢
  clear hm
  have L0 := HH.out.l
  obtain ⟨c0, c1, c2, c3, c4⟩ := HC.out u (Below.refl _ _)
  have HL0 := Lib.hid L0
  clear L0
  go_enter Try.func19, Try.ntmps19
  cases is with
  | false =>
    have HT := Lib.hid (tk_none (o := F) (U := U) (s := s) (k := 2) rfl HI2.out)
    go_wp2_with (go_at_call 22; (with_reducible refine (HFI.out _ HL0.out).mono ?_); rintro e u2 ⟨rfl, hb⟩; have HB := Lib.hid hb; clear hb)
    go_ret
    rw [← HMU.out, HT.out.1, HT.out.2]
    have hb3 := HB.out.alloc HB.out.size (.cells #[.string yn, .int .i64 ya, .int .i64 (M : Int), .slice yAn ynl.length ycn, .slice yAk ykl.length yck] 45)
    exact ⟨rfl, HH.out.on hb3, Ki.of hb3⟩
  | true =>
    by_cases hq : m < M
    · have HT := Lib.hid (tk_yes (o := F) (U := U) (s := s) (k := 2) rfl HI2.out (by rw [HM.out, HMU.out]; exact hq))
      have hq1 : ¬ (M : Int) ≤ (m : Int) := by omega
      have hq2 : ¬ M ≤ m := by omega
      have HAD2 := Lib.hid (fun v (hv : Below u.heap.size u v) => HAD.out v hv (HNO.out rfl) 1 (m + 1) (by omega) (by omega) (by omega))
      go_upto_region 11 with (first
        | (go_at_call 22; (with_reducible refine (HFI.out _ HL0.out).mono ?_); rintro e u2 ⟨rfl, hb⟩; have HB := Lib.hid (hb.alloc hb.size (.cells #[.string yn, .int .i64 ya, .int .i64 (M : Int), .slice yAn ynl.length ycn, .slice yAk ykl.length yck] 45)); have HN := Lib.hid (Bk.new u2 45 #[.string yn, .int .i64 ya, .int .i64 (M : Int), .slice yAn ynl.length ycn, .slice yAk ykl.length yck]); have t1 : (u2.alloc (.cells #[.string yn, .int .i64 ya, .int .i64 (M : Int), .slice yAn ynl.length ycn, .slice yAk ykl.length yck] 45)).cell? ⟨u2.heap.size, 1, none⟩ = some (.int .i64 ya) := HN.out.cell 1; have t2 : (u2.alloc (.cells #[.string yn, .int .i64 ya, .int .i64 (M : Int), .slice yAn ynl.length ycn, .slice yAk ykl.length yck] 45)).cell? ⟨u2.heap.size, 2, none⟩ = some (.int .i64 (M : Int)) := HN.out.cell 2; clear hb)
        | (go_at_call 21; (with_reducible refine (HUS.out _ HB.out).mono ?_); rintro e u3 ⟨rfl, hb⟩; have HB3 := Lib.hid (HB.out.trans (hb.mono HB.out.size)); clear hb t1 t2))
      go_wp2_with (go_at_call 29; (with_reducible refine (HAD2.out _ HB3.out).mono ?_); rintro e u4 ⟨rfl, hr, hk⟩; have HR := Lib.hid hr; have HK := Lib.hid hk; clear hr hk)
      go_ret
      rw [← HMU.out, HT.out.1, HT.out.2, HMU.out]
      exact ⟨rfl, HR.out, HK.out.after HB3.out⟩
    · have HT := Lib.hid (tk_full (o := F) (U := U) (s := s) (k := 2) rfl HI2.out (by rw [HM.out, HMU.out]; omega))
      have hq1 : (M : Int) ≤ (m : Int) := by omega
      have hq2 : M ≤ m := by omega
      go_wp2_with (first
        | (go_at_call 22; (with_reducible refine (HFI.out _ HL0.out).mono ?_); rintro e u2 ⟨rfl, hb⟩; have HB := Lib.hid (hb.alloc hb.size (.cells #[.string yn, .int .i64 ya, .int .i64 (M : Int), .slice yAn ynl.length ycn, .slice yAk ykl.length yck] 45)); have HN := Lib.hid (Bk.new u2 45 #[.string yn, .int .i64 ya, .int .i64 (M : Int), .slice yAn ynl.length ycn, .slice yAk ykl.length yck]); have t1 : (u2.alloc (.cells #[.string yn, .int .i64 ya, .int .i64 (M : Int), .slice yAn ynl.length ycn, .slice yAk ykl.length yck] 45)).cell? ⟨u2.heap.size, 1, none⟩ = some (.int .i64 ya) := HN.out.cell 1; have t2 : (u2.alloc (.cells #[.string yn, .int .i64 ya, .int .i64 (M : Int), .slice yAn ynl.length ycn, .slice yAk ykl.length yck] 45)).cell? ⟨u2.heap.size, 2, none⟩ = some (.int .i64 (M : Int)) := HN.out.cell 2; clear hb)
        | (go_at_call 21; (with_reducible refine (HUS.out _ HB.out).mono ?_); rintro e u3 ⟨rfl, hb⟩; have HB3 := Lib.hid (HB.out.trans (hb.mono HB.out.size)); clear hb t1 t2))
      go_ret
      rw [← HMU.out, HT.out.1, HT.out.2]
      exact ⟨rfl, HH.out.on HB3.out, Ki.of HB3.out⟩
set_option maxRecDepth 100000 in
set_option maxHeartbeats 4000000 in
theorem rgive1_ok (w : World) (rb bn bv : Nat) (x : Rq) (U : Us) (u : World) (h : Rg w rb bn bv x U u) (hx : RqB w x) (tn : List Tn) (hT : ∀ s, (fT s x.ts).map (·.t) = gtF tn s) (hlim : LimU tn U) (h8 : ∀ a j, U a j ≤ 8) (s : ByteArray) :
    Calls Try.prog 15 #[.pointer (some ⟨rb, 0, none⟩), .string s, .int .i64 1] u fun e u' => e = .returned (.bool (gvB U s 1)) ∧ Rg w rb bn bv x (gvU U s 1) u' ∧ Ki w.heap.size u u' := by
  have HUS := Lib.hid (rused_ok w rb bn bv x U u h hx tn hT hlim s 1)
  have HAD := Lib.hid (fun v (hv : Below u.heap.size u v) => radd1_ok w rb bn bv x U v (h.on hv) hx s)
  have HH := Lib.hid h
  have HNO := Lib.hid (show 0 < U s 1 → ¬ fT s x.ts = none from fun h0 e => by have := hlim.none_ (fT_gtF hT e) 1; omega)
  have HU8 := Lib.hid (h8 s 1)
  obtain ⟨m, hm⟩ : ∃ m, U s 1 = m := ⟨_, rfl⟩
  have HMU := Lib.hid hm
  simp only [hm] at HUS HAD HNO HU8
  clear h hx hT hlim h8 hm
  go_enter Try.func15, Try.ntmps15
  cases m with
  | zero =>
    go_wp2_with (go_at_call 21; (with_reducible refine HUS.out.mono ?_); rintro e u3 ⟨rfl, hb⟩; have HB3 := Lib.hid hb; clear hb)
    go_ret
    exact ⟨by unfold gvB; rw [HMU.out]; rfl, by rw [gvU_zero HMU.out]; exact HH.out.on HB3.out, Ki.of HB3.out⟩
  | succ m =>
    have hz : (((m + 1 : Nat) : Int) == 0) = false := by rw [beq_eq_false_iff_ne]; omega
    have hz2 : ((m : Int) + 1 == 0) = false := by rw [beq_eq_false_iff_ne]; omega
    have HAD2 := Lib.hid (fun v (hv : Below u.heap.size u v) => HAD.out v hv (HNO.out (by omega)) (-1) m (by omega) (by have := HU8.out; omega) (by have := HU8.out; omega))
    go_wp2_with (first
      | (go_at_call 21; (with_reducible refine HUS.out.mono ?_); rintro e u3 ⟨rfl, hb⟩; have HB3 := Lib.hid hb; clear hb)
      | (go_at_call 29; (with_reducible refine (HAD2.out _ HB3.out).mono ?_); rintro e u4 ⟨rfl, hr, hk⟩; have HR := Lib.hid hr; have HK := Lib.hid hk; clear hr hk))
    go_ret
    exact ⟨by unfold gvB; rw [HMU.out]; simp, by unfold gvU; rw [HMU.out]; exact HR.out, HK.out.after HB3.out⟩
set_option maxRecDepth 100000 in
set_option maxHeartbeats 4000000 in
theorem rgive2_ok (w : World) (rb bn bv : Nat) (x : Rq) (U : Us) (u : World) (h : Rg w rb bn bv x U u) (hx : RqB w x) (tn : List Tn) (hT : ∀ s, (fT s x.ts).map (·.t) = gtF tn s) (hlim : LimU tn U) (h8 : ∀ a j, U a j ≤ 8) (s : ByteArray) :
    Calls Try.prog 15 #[.pointer (some ⟨rb, 0, none⟩), .string s, .int .i64 2] u fun e u' => e = .returned (.bool (gvB U s 2)) ∧ Rg w rb bn bv x (gvU U s 2) u' ∧ Ki w.heap.size u u' := by
  have HUS := Lib.hid (rused_ok w rb bn bv x U u h hx tn hT hlim s 2)
  have HAD := Lib.hid (fun v (hv : Below u.heap.size u v) => radd2_ok w rb bn bv x U v (h.on hv) hx s)
  have HH := Lib.hid h
  have HNO := Lib.hid (show 0 < U s 2 → ¬ fT s x.ts = none from fun h0 e => by have := hlim.none_ (fT_gtF hT e) 2; omega)
  have HU8 := Lib.hid (h8 s 2)
  obtain ⟨m, hm⟩ : ∃ m, U s 2 = m := ⟨_, rfl⟩
  have HMU := Lib.hid hm
  simp only [hm] at HUS HAD HNO HU8
  clear h hx hT hlim h8 hm
  go_enter Try.func15, Try.ntmps15
  cases m with
  | zero =>
    go_wp2_with (go_at_call 21; (with_reducible refine HUS.out.mono ?_); rintro e u3 ⟨rfl, hb⟩; have HB3 := Lib.hid hb; clear hb)
    go_ret
    exact ⟨by unfold gvB; rw [HMU.out]; rfl, by rw [gvU_zero HMU.out]; exact HH.out.on HB3.out, Ki.of HB3.out⟩
  | succ m =>
    have hz : (((m + 1 : Nat) : Int) == 0) = false := by rw [beq_eq_false_iff_ne]; omega
    have hz2 : ((m : Int) + 1 == 0) = false := by rw [beq_eq_false_iff_ne]; omega
    have HAD2 := Lib.hid (fun v (hv : Below u.heap.size u v) => HAD.out v hv (HNO.out (by omega)) (-1) m (by omega) (by have := HU8.out; omega) (by have := HU8.out; omega))
    go_wp2_with (first
      | (go_at_call 21; (with_reducible refine HUS.out.mono ?_); rintro e u3 ⟨rfl, hb⟩; have HB3 := Lib.hid hb; clear hb)
      | (go_at_call 29; (with_reducible refine (HAD2.out _ HB3.out).mono ?_); rintro e u4 ⟨rfl, hr, hk⟩; have HR := Lib.hid hr; have HK := Lib.hid hk; clear hr hk))
    go_ret
    exact ⟨by unfold gvB; rw [HMU.out]; simp, by unfold gvU; rw [HMU.out]; exact HR.out, HK.out.after HB3.out⟩
set_option maxRecDepth 100000 in
set_option maxHeartbeats 1000000 in
theorem rgive0_ok (w : World) (rb bn bv : Nat) (x : Rq) (U : Us) (u : World) (h : Rg w rb bn bv x U u) (hx : RqB w x) (tn : List Tn) (hT : ∀ s, (fT s x.ts).map (·.t) = gtF tn s) (hlim : LimU tn U) (s : ByteArray) (k : Int) (h1 : ¬ k = 1) (h2 : ¬ k = 2) :
    Calls Try.prog 15 #[.pointer (some ⟨rb, 0, none⟩), .string s, .int .i64 k] u fun e u' => e = .returned (.bool (gvB U s k)) ∧ Rg w rb bn bv x (gvU U s k) u' ∧ Ki w.heap.size u u' := by
  have HUS := Lib.hid (rused_ok w rb bn bv x U u h hx tn hT hlim s k)
  have HH := Lib.hid h
  have HZ := Lib.hid (hlim.not_ s (k := k) (by unfold cnB; rw [decide_eq_false h1, decide_eq_false h2]; rfl))
  rw [HZ.out] at HUS
  clear h hx hT hlim h1 h2
  go_enter Try.func15, Try.ntmps15
  go_wp2_with (go_at_call 21; (with_reducible refine HUS.out.mono ?_); rintro e u3 ⟨rfl, hb⟩; have HB3 := Lib.hid hb; clear hb)
  go_ret
  exact ⟨by unfold gvB; rw [HZ.out]; rfl, by rw [gvU_zero HZ.out]; exact HH.out.on HB3.out, Ki.of HB3.out⟩
end Go.Proofs.Ytcplebbaiambgaa
