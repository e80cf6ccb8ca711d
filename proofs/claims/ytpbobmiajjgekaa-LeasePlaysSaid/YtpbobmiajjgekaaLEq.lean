/- Leases that are held against one another; the document's Same; great: their contracts. (Written by gen_leq.py.) -/
import Derived.Test.YtpbobmiajjgekaaG15
import Derived.Test.YtpbobmiajjgekaaG5
namespace Go.Proofs.Ytpbobmiajjgekaa
set_option linter.unusedVariables false
set_option maxRecDepth 100000
set_option linter.unusedSimpArgs false
open Go.RowKit

def eqLs (x y : Ls) : Bool := (x.name.toList == y.name.toList) && (x.ten.toList == y.ten.toList) && (x.conn == y.conn) && (x.epoch == y.epoch) && (x.till == y.till) && (x.held == y.held)
theorem eqLs_iff (x y : Ls) : eqLs x y = true ↔ x = y := by
  unfold eqLs
  simp only [Bool.and_eq_true, beq_iff_eq]
  constructor
  · rintro ⟨⟨⟨⟨⟨h1, h2⟩, h3⟩, h4⟩, h5⟩, h6⟩
    obtain ⟨a1, a2, a3, a4, a5, a6⟩ := x
    obtain ⟨b1, b2, b3, b4, b5, b6⟩ := y
    dsimp only at h1 h2 h3 h4 h5 h6
    have e1 : a1 = b1 := (nmE_iff _ _).1 (by unfold nmE; rw [beq_iff_eq]; exact h1)
    have e2 : a2 = b2 := (nmE_iff _ _).1 (by unfold nmE; rw [beq_iff_eq]; exact h2)
    rw [e1, e2, h3, h4, h5, h6]
  · rintro rfl
    exact ⟨⟨⟨⟨⟨rfl, rfl⟩, rfl⟩, rfl⟩, rfl⟩, rfl⟩
instance Ls.dec : DecidableEq Ls := fun x y => decidable_of_iff (eqLs x y = true) (eqLs_iff x y)
theorem eqLs_same (x : Ls) : eqLs x x = true := (eqLs_iff x x).2 rfl
theorem eqLs_dec (x y : Ls) : eqLs x y = decide (x = y) := by
  rw [Bool.eq_iff_iff, eqLs_iff, decide_eq_true_eq]
set_option maxRecDepth 100000 in
set_option maxHeartbeats 2000000 in
theorem eql_run (x y : Ls) (p q : Operand) (w : World) : ((do eqGuard .eql 32 p q (.agg (lsc x)) (.agg (lsc y)); binOp .eql 32 (.agg (lsc x)) (.agg (lsc y))) : Sem Value).run Try.prog w = .ok (.bool (eqLs x y)) w := by
  obtain ⟨k, a, b, n, m, h⟩ := x
  obtain ⟨k', a', b', n', m', h'⟩ := y
  unfold eqLs
  go_simp
  repeat' split
  all_goals simp_all
set_option maxRecDepth 100000 in
set_option maxHeartbeats 2000000 in
theorem nel_run (x y : Ls) (p q : Operand) (w : World) : ((do eqGuard .neq 32 p q (.agg (lsc x)) (.agg (lsc y)); binOp .neq 32 (.agg (lsc x)) (.agg (lsc y))) : Sem Value).run Try.prog w = .ok (.bool (!eqLs x y)) w := by
  obtain ⟨k, a, b, n, m, h⟩ := x
  obtain ⟨k', a', b', n', m', h'⟩ := y
  unfold eqLs
  go_simp
  repeat' split
  all_goals simp_all
theorem yieldsIf_eql {ops : Array Oper} {S : World → Prop} {oi : Oper} {a : Act} (hw : Region.wanted oi (yielded ops a.tmps) = true) (p q : Operand) (d : TypeId) (ho : oi.op = .binOp .eql 32 p q d) (x y : Ls) (hx : a.eval p = .agg (lsc x)) (hy : a.eval q = .agg (lsc y)) : YieldsIf Try.prog ops S oi (.bool (eqLs x y)) a :=
  .inl ⟨hw, fun w hw' => by
    have h1 := eql_run x y p q w
    unfold execOp
    simp only [ho, hx, hy]
    rw [Sem.run_bind, h1]
    rfl⟩
theorem wpList_eql {ops : Array Oper} {Q : Exit → Act → World → Prop} {a : Act} {w : World} {rest : List Oper} {o : Oper} (hw : Region.wanted o (yielded ops a.tmps) = true) (p q : Operand) (d : TypeId) (ho : o.op = .binOp .eql 32 p q d) (x y : Ls) (hx : a.eval p = .agg (lsc x)) (hy : a.eval q = .agg (lsc y))
    (h : wpList Try.prog ops Q rest (a.put o.dst (.bool (eqLs x y))) w) : wpList Try.prog ops Q (o :: rest) a w :=
  wpList_wanted hw fun K hK => by
    have h1 := eql_run x y p q w
    unfold Oper.wp execOp
    simp only [ho, hx, hy]
    rw [Sem.run_bind, h1]
    exact hK _ _ h
theorem yieldsIf_nel {ops : Array Oper} {S : World → Prop} {oi : Oper} {a : Act} (hw : Region.wanted oi (yielded ops a.tmps) = true) (p q : Operand) (d : TypeId) (ho : oi.op = .binOp .neq 32 p q d) (x y : Ls) (hx : a.eval p = .agg (lsc x)) (hy : a.eval q = .agg (lsc y)) : YieldsIf Try.prog ops S oi (.bool (!eqLs x y)) a :=
  .inl ⟨hw, fun w hw' => by
    have h1 := nel_run x y p q w
    unfold execOp
    simp only [ho, hx, hy]
    rw [Sem.run_bind, h1]
    rfl⟩
theorem wpList_nel {ops : Array Oper} {Q : Exit → Act → World → Prop} {a : Act} {w : World} {rest : List Oper} {o : Oper} (hw : Region.wanted o (yielded ops a.tmps) = true) (p q : Operand) (d : TypeId) (ho : o.op = .binOp .neq 32 p q d) (x y : Ls) (hx : a.eval p = .agg (lsc x)) (hy : a.eval q = .agg (lsc y))
    (h : wpList Try.prog ops Q rest (a.put o.dst (.bool (!eqLs x y))) w) : wpList Try.prog ops Q (o :: rest) a w :=
  wpList_wanted hw fun K hK => by
    have h1 := nel_run x y p q w
    unfold Oper.wp execOp
    simp only [ho, hx, hy]
    rw [Sem.run_bind, h1]
    exact hK _ _ h

set_option maxRecDepth 100000 in
set_option maxHeartbeats 4000000 in
theorem rsame_ok (A A' : Option Addr) (cp cp' : Nat) (L L' : List Ls) (u : World) (n m : Nat) (hn : L.length = n) (hm : L'.length = m) (hR : Rw 6 lsc u A L) (hR' : Rw 6 lsc u A' L') (hc : n ≤ 9223372036854775807) (hc' : m ≤ 9223372036854775807) :
    Calls Try.prog 20 #[.slice A n cp, .slice A' m cp'] u fun e u' => e = .returned (.bool (decide (L = L'))) ∧ Below u.heap.size u u' := by
  by_cases hnm : n = m
  · subst hnm
    have HA := Lib.hid (And.intro hR hR')
    have HL := Lib.hid (And.intro hn hm)
    clear hR hR' hn hm
    go_enter Try.func20, Try.ntmps20
    go_wp2_with fail
    go_loopw [5] (fun v5 wr => ∃ i : Nat, i ≤ n ∧ v5 = .int .i64 (i : Int) ∧ Hid (Below u.heap.size u wr ∧ ∀ j, j < i → L[j]? = L'[j]?)) (fun v5 _ => n - (intOf v5).toNat)
    case atStart => exact ⟨0, by omega, rfl, Lib.hid ⟨Below.refl _ _, fun j hj => by omega⟩⟩
    case round =>
      obtain ⟨i, hi, rfl, HR⟩ := hrel
      by_cases hin : i < n
      · have hi2 : (i : Int) < (n : Int) := by omega
        obtain ⟨bx, ox, x, rfl, hx, hcx⟩ := row6 HA.out.1 i (by rw [HL.out.1]; exact hin)
        obtain ⟨by_, oy, y, rfl, hy, hcy⟩ := row6 HA.out.2 i (by rw [HL.out.2]; exact hin)
        have HXY := Lib.hid (And.intro hx hy)
        have HCX := Lib.hid hcx
        have HCY := Lib.hid hcy
        obtain ⟨q, hq⟩ : ∃ q, eqLs x y = q := ⟨_, rfl⟩
        have HQ := Lib.hid hq
        clear hx hy hcx hcy hq
        obtain ⟨xn, xt, xc, xe, xu, xh⟩ := x
        obtain ⟨yn, yt, yc, ye, yu, yh⟩ := y
        dsimp only at HCX HCY
        go_upto_region 6 with fail
        try simp only [List.cons_append, List.nil_append]
        refine wp_region_held_drew (S := fun wz => Below u.heap.size u wz) (by kernel_rfl) (HR.out.1.drew) (fun hHeld => ?_)
        refine take_at (some 17) (i := 0) (v := ?_) rfl rfl (by kernel_rfl) (by kernel_rfl) (by kernel_rfl) (fun _ _ _ h => h) (Or.inl ⟨by kernel_rfl, ?_⟩) hHeld ?_
        rotate_left
        · intro wz hSw; go_simp; try (with_reducible rfl)
        try simp only [Act.put, List.setIfInBounds_toArray, List.set_cons_zero, List.set_cons_succ, List.getElem_toArray, List.getElem_cons_succ, List.getElem_cons_zero]
        refine take_at (some 18) (i := 1) (v := ?_) rfl rfl (by kernel_rfl) (by kernel_rfl) (by kernel_rfl) (fun _ _ _ h => h) (Or.inl ⟨by kernel_rfl, ?_⟩) hHeld ?_
        rotate_left
        · intro wz hSw; go_simp; try (with_reducible rfl)
        try simp only [Act.put, List.setIfInBounds_toArray, List.set_cons_zero, List.set_cons_succ, List.getElem_toArray, List.getElem_cons_succ, List.getElem_cons_zero]
        refine take_at (some 19) (i := 2) (v := ?_) rfl rfl (by kernel_rfl) (by kernel_rfl) (by kernel_rfl) (fun _ _ _ h => h) (Or.inl ⟨by kernel_rfl, ?_⟩) hHeld ?_
        rotate_left
        · intro wz hSw; obtain ⟨x0, x1, x2, x3, x4, x5⟩ := HCX.out wz hSw; obtain ⟨y0, y1, y2, y3, y4, y5⟩ := HCY.out wz hSw; go_simp; try (with_reducible rfl)
        try simp only [Act.put, List.setIfInBounds_toArray, List.set_cons_zero, List.set_cons_succ, List.getElem_toArray, List.getElem_cons_succ, List.getElem_cons_zero]
        refine take_at (some 20) (i := 3) (v := ?_) rfl rfl (by kernel_rfl) (by kernel_rfl) (by kernel_rfl) (fun _ _ _ h => h) (Or.inl ⟨by kernel_rfl, ?_⟩) hHeld ?_
        rotate_left
        · intro wz hSw; obtain ⟨x0, x1, x2, x3, x4, x5⟩ := HCX.out wz hSw; obtain ⟨y0, y1, y2, y3, y4, y5⟩ := HCY.out wz hSw; go_simp; try (with_reducible rfl)
        try simp only [Act.put, List.setIfInBounds_toArray, List.set_cons_zero, List.set_cons_succ, List.getElem_toArray, List.getElem_cons_succ, List.getElem_cons_zero]
        refine take_at (some 21) (i := 4) (v := ?_) rfl rfl (by kernel_rfl) (by kernel_rfl) (by kernel_rfl) (fun _ _ _ h => h) (Or.inl ⟨by kernel_rfl, ?_⟩) hHeld ?_
        rotate_left
        · intro wz hSw; go_simp; try (with_reducible rfl)
        try simp only [Act.put, List.setIfInBounds_toArray, List.set_cons_zero, List.set_cons_succ, List.getElem_toArray, List.getElem_cons_succ, List.getElem_cons_zero]
        refine take_at (some 22) (i := 5) (v := ?_) rfl rfl (by kernel_rfl) (by kernel_rfl) (by kernel_rfl) (fun _ _ _ h => h) (Or.inl ⟨by kernel_rfl, ?_⟩) hHeld ?_
        rotate_left
        · intro wz hSw; go_simp; try (with_reducible rfl)
        try simp only [Act.put, List.setIfInBounds_toArray, List.set_cons_zero, List.set_cons_succ, List.getElem_toArray, List.getElem_cons_succ, List.getElem_cons_zero]
        refine take_at (some 23) (i := 6) (v := ?_) rfl rfl (by kernel_rfl) (by kernel_rfl) (by kernel_rfl) (fun _ _ _ h => h) (Or.inl ⟨by kernel_rfl, ?_⟩) hHeld ?_
        rotate_left
        · intro wz hSw; obtain ⟨x0, x1, x2, x3, x4, x5⟩ := HCX.out wz hSw; obtain ⟨y0, y1, y2, y3, y4, y5⟩ := HCY.out wz hSw; go_simp; try (with_reducible rfl)
        try simp only [Act.put, List.setIfInBounds_toArray, List.set_cons_zero, List.set_cons_succ, List.getElem_toArray, List.getElem_cons_succ, List.getElem_cons_zero]
        refine take_at (some 24) (i := 7) (v := ?_) rfl rfl (by kernel_rfl) (by kernel_rfl) (by kernel_rfl) (fun _ _ _ h => h) (Or.inl ⟨by kernel_rfl, ?_⟩) hHeld ?_
        rotate_left
        · intro wz hSw; obtain ⟨x0, x1, x2, x3, x4, x5⟩ := HCX.out wz hSw; obtain ⟨y0, y1, y2, y3, y4, y5⟩ := HCY.out wz hSw; go_simp; try (with_reducible rfl)
        try simp only [Act.put, List.setIfInBounds_toArray, List.set_cons_zero, List.set_cons_succ, List.getElem_toArray, List.getElem_cons_succ, List.getElem_cons_zero]
        refine take_at (some 25) (i := 8) rfl rfl (by kernel_rfl) (by kernel_rfl) (by kernel_rfl) (fun _ _ _ h => h) (yieldsIf_nel (by kernel_rfl) (.tmp 20) (.tmp 24) _ rfl ⟨xn, xt, xc, xe, xu, xh⟩ ⟨yn, yt, yc, ye, yu, yh⟩ rfl rfl) hHeld ?_
        try simp only [Act.put, List.setIfInBounds_toArray, List.set_cons_zero, List.set_cons_succ, List.getElem_toArray, List.getElem_cons_succ, List.getElem_cons_zero]
        refine wpAnyH_done (by kernel_rfl) ?_ _
        rw [HQ.out]
        refine gen_ql (fun wz => Below u.heap.size u wz) (by first | exact HR.out.1.drew | exact HR.out.1) (fun wq hq => ?_)
        have HWQ := Lib.hid hq
        clear hq hHeld
        cases q with
        | true =>
          have HE := Lib.hid ((eqLs_iff _ _).1 HQ.out)
          go_wp2_with fail
          go_roundw
          case rel => exact ⟨i + 1, by omega, by go_num, Lib.hid ⟨HWQ.out, fun j hj => by
            by_cases e : j = i
            · subst e; rw [HXY.out.1, HXY.out.2, HE.out]
            · exact HR.out.2 j (by omega)⟩⟩
          case measure => simp [intOf]; omega
        | false =>
          have HNE := Lib.hid (show decide (L = L') = false by
            simp only [decide_eq_false_iff_not]
            intro e
            have h1 := HXY.out.1
            rw [e, HXY.out.2] at h1
            injection h1 with h1
            have := HQ.out
            rw [← h1, eqLs_same] at this
            cases this)
          go_wp2_with fail
          go_ret
          exact ⟨by rw [HNE.out]; rfl, HWQ.out⟩
      · have hi2 : ¬ (i : Int) < (n : Int) := by omega
        have hd : decide ((i : Int) < (n : Int)) = false := by simp; omega
        have HEQ := Lib.hid (show decide (L = L') = true by
          simp only [decide_eq_true_eq]
          apply List.ext_getElem?
          intro j
          by_cases hj : j < i
          · exact HR.out.2 j hj
          · rw [List.getElem?_eq_none (by rw [HL.out.1]; omega), List.getElem?_eq_none (by rw [HL.out.2]; omega)])
        go_wp2_with fail
        go_ret
        exact ⟨by rw [HEQ.out]; rfl, HR.out.1⟩
  · have HNE := Lib.hid (show decide (L = L') = false by
      simp only [decide_eq_false_iff_not]
      intro e
      rw [e] at hn
      omega)
    have h1 : ¬ (n : Int) = (m : Int) := by omega
    have hbe : ((n : Int) == (m : Int)) = false := by simp; omega
    clear hR hR' hn hm
    go_enter Try.func20, Try.ntmps20
    go_wp2_with fail
    go_ret
    exact ⟨by rw [HNE.out]; rfl, Below.refl _ _⟩
/-- Is that too much? -/
def bgL (o : Lo) : Bool := decide (1000 < o.tn.size + o.nm.size)
def grB (l : List Lo) : Bool := (l.take 400).any bgL || decide (300 < l.length)
theorem grB_few {l : List Lo} (h : grB l = false) : l.length ≤ 300 := by
  unfold grB at h
  simp only [Bool.or_eq_false_iff, decide_eq_false_iff_not] at h
  omega
set_option maxRecDepth 100000 in
set_option maxHeartbeats 4000000 in
theorem lzgreat_ok (A : Option Addr) (l : List Lo) (c : Nat) (u : World) (h : InL u A l c) : Calls Try.prog 13 #[.slice A l.length c] u fun e u' => e = .returned (.bool (grB l)) ∧ Below u.heap.size u u' := by
  have HI := Lib.hid h
  obtain ⟨R, hR⟩ : ∃ R, grB l = R := ⟨_, rfl⟩
  have HRR := Lib.hid hR
  rw [hR]
  obtain ⟨n, hn⟩ : ∃ n, l.length = n := ⟨_, rfl⟩
  have HN := Lib.hid hn
  have hnb : n ≤ 140737488355328 := by rw [← hn]; exact h.n
  rw [hn]
  clear h hn hR
  go_enter Try.func13, Try.ntmps13
  go_wp2_with fail
  go_loopw [3] (fun v3 wr => ∃ i : Nat, i ≤ n ∧ i ≤ 400 ∧ v3 = .int .i64 (i : Int) ∧ Hid (∀ y ∈ l.take i, bgL y = false) ∧ Hid (Below u.heap.size u wr)) (fun v3 _ => n - (intOf v3).toNat)
  case atStart => exact ⟨0, by omega, by omega, rfl, Lib.hid (fun y hy => by simp at hy), Lib.hid (Below.refl _ _)⟩
  case round =>
    obtain ⟨i, hi, hi4, rfl, H0, HB⟩ := hrel
    have HNO := Lib.hid (show (i = 400 ∨ i = n) → R = decide (300 < n) from fun hh => by
      rw [← HRR.out]
      unfold grB
      have e : l.take 400 = l.take i := by
        rcases hh with hh | hh
        · rw [hh]
        · rw [List.take_of_length_le (by rw [HN.out]; omega), List.take_of_length_le (by rw [HN.out]; omega)]
      have : (l.take 400).any bgL = false := by
        rw [e, List.any_eq_false]
        intro y hy
        rw [H0.out y hy]; simp
      rw [this, HN.out, Bool.false_or])
    by_cases hin : i < n ∧ i < 400
    · obtain ⟨hin1, hin2⟩ := hin
      have hi2 : (i : Int) < (n : Int) := by omega
      have hi3 : (i : Int) < 400 := by omega
      obtain ⟨b, o, x, rfl, hx, hsm, hc⟩ := HI.out.at7 i (by rw [HN.out]; exact hin1)
      have HC := Lib.hid hc
      have HXX := Lib.hid hx
      obtain ⟨hs1, hs2⟩ := hsm
      obtain ⟨xw, xt, xn, xc, xe, xo, xl⟩ := x
      dsimp only at hs1 hs2 HC
      obtain ⟨s, hs⟩ : ∃ s : Nat, xt.size + xn.size = s := ⟨_, rfl⟩
      have hw : IntKind.i64.wrap ((xt.size : Int) + (xn.size : Int)) = (s : Int) := (iwrap _ s (by omega) (by omega)).1
      have HBG := Lib.hid (show bgL ⟨xw, xt, xn, xc, xe, xo, xl⟩ = decide (1000 < s) by unfold bgL; dsimp only; rw [hs])
      clear hc hx
      obtain ⟨c0, c1, c2, c3, c4, c5, c6⟩ := HC.out wr HB.out
      by_cases hgt : s > 1000
      · have hg2 : (s : Int) > 1000 := by omega
        have hg3 : decide ((1000 : Int) < (s : Int)) = true := decide_eq_true (by omega)
        have HG := Lib.hid (show R = true by
          rw [← HRR.out]
          unfold grB
          have : (l.take 400).any bgL = true := by
            rw [List.any_eq_true]
            exact ⟨_, List.mem_of_getElem? (by rw [List.getElem?_take_of_lt hin2]; exact HXX.out), by rw [HBG.out]; simpa using hgt⟩
          rw [this]; rfl)
        clear hgt hs hs1 hs2
        go_wp2_with fail
        go_quiet (fail)
        go_wp2_with fail
        go_ret
        exact ⟨by rw [HG.out]; rfl, by first | exact HB.out | exact HB.out.trans ((below_dn _).mono HB.out.size)⟩
      · have hg2 : ¬ (s : Int) > 1000 := by omega
        have hg3 : decide ((1000 : Int) < (s : Int)) = false := decide_eq_false (by omega)
        have HG := Lib.hid (show bgL ⟨xw, xt, xn, xc, xe, xo, xl⟩ = false by rw [HBG.out]; simpa using hgt)
        clear hgt hs hs1 hs2
        go_wp2_with fail
        go_quiet (fail)
        go_wp2_with fail
        go_roundw
        case rel =>
          refine ⟨i + 1, by omega, by omega, by go_num, Lib.hid (fun y hy => ?_), by first | exact HB | exact Lib.hid (HB.out.trans ((below_dn _).mono HB.out.size))⟩
          rw [List.take_add_one, HXX.out, List.mem_append] at hy
          rcases hy with hy | hy
          · exact H0.out y hy
          · simp at hy; rw [hy]; exact HG.out
        case measure => simp [intOf]; omega
    · by_cases hin1 : i < n
      · have hi400 : i = 400 := by omega
        subst hi400
        have hi2 : ((400 : Nat) : Int) < (n : Int) := by omega
        have hi2b : (400 : Int) < (n : Int) := by omega
        have hg : (n : Int) > 300 := by omega
        have HF := Lib.hid (show R = true by rw [HNO.out (.inl rfl)]; exact decide_eq_true (by omega))
        go_wp2_with fail
        go_ret
        exact ⟨by rw [HF.out]; first | rfl | simp | (simp; omega), HB.out⟩
      · have hi2 : ¬ (i : Int) < (n : Int) := by omega
        have hi2b : decide ((i : Int) < (n : Int)) = false := decide_eq_false hi2
        have HF0 := Lib.hid (HNO.out (.inr (by omega)))
        by_cases hg : n > 300
        · have hg2 : (n : Int) > 300 := by omega
          have HF := Lib.hid (show R = true by rw [HF0.out]; exact decide_eq_true (by omega))
          go_wp2_with fail
          go_ret
          exact ⟨by rw [HF.out]; first | rfl | simp | (simp; omega), HB.out⟩
        · have hg2 : decide ((n : Int) > 300) = false := decide_eq_false (by omega)
          have hg3 : decide ((300 : Int) < (n : Int)) = false := decide_eq_false (by omega)
          have HF := Lib.hid (show R = false by rw [HF0.out]; exact decide_eq_false (by omega))
          go_wp2_with fail
          go_ret
          exact ⟨by rw [HF.out]; first | rfl | simp | (simp; omega), HB.out⟩
end Go.Proofs.Ytpbobmiajjgekaa
