/- The document's own: Net: its contract. -/
import Derived.Test.YtmdijhfkobcbjaaSRef4
import Derived.Test.YtmdijhfkobcbjaaSRef5
import Derived.Deep.Cut
import Derived.BigGuard
namespace Go.Proofs.Ytmdijhfkobcbjaa
set_option linter.unusedVariables false
set_option linter.unusedSimpArgs false
open Go.RowKit

theorem parE_is (r : Option (Nat × Nat)) : ∃ (n : Nat) (b : Bool), parE r = .returned (.tuple #[.int .i64 n, .bool b]) := by
  cases r with
  | none => exact ⟨0, false, rfl⟩
  | some x => exact ⟨x.1, true, rfl⟩
theorem netO_cut (s : ByteArray) : netO s = if (cutL 47 s.data.toList).2.2 = true then (match addrO (bs (cutL 47 s.data.toList).1), upToO 32 (bs (cutL 47 s.data.toList).2.1) with
    | some a, some b => if rightB a b = true then some (a, b) else none
    | _, _ => none) else none := by
  unfold netO
  rw [pieces_cut]
  cases hm : (cutL 47 s.data.toList).2.2 with
  | false => simp [netL]
  | true =>
    simp only [if_true]
    rw [pieces_cut 47 (cutL 47 s.data.toList).2.1]
    cases hm2 : (cutL 47 (cutL 47 s.data.toList).2.1).2.2 with
    | false =>
      have := (cutL_join 47 (cutL 47 s.data.toList).2.1).2 hm2
      rw [← this.1]
      simp only [Bool.false_eq_true, if_false, netL]
      cases addrO (bs (cutL 47 s.data.toList).1) <;> cases upToO 32 (bs (cutL 47 s.data.toList).2.1) <;> rfl
    | true =>
      have hj := (cutL_join 47 (cutL 47 s.data.toList).2.1).1 hm2
      have hu : upToO 32 (bs (cutL 47 s.data.toList).2.1) = none := by
        cases h : upToO 32 (bs (cutL 47 s.data.toList).2.1) with
        | none => rfl
        | some n =>
          have e := bs_inj (upToO_is 32 n _ h).2
          have : (47 : UInt8) ∈ decB n := by rw [← e, hj]; simp
          exact (dec_no n 47 (by decide) this).elim
      rw [hu, pieces_cut 47 (cutL 47 (cutL 47 s.data.toList).2.1).2.1]
      simp only [if_true, netL]
      split
      · rename_i h; cases h
      · rfl

set_option maxRecDepth 100000 in
set_option maxHeartbeats 4000000 in
theorem rnet_ok (s : ByteArray) (W : World) (hs : s.size ≤ 140737488355328) :
    Calls Try.prog 14 #[.string s] W fun e w' => e = .returned (.tuple #[.agg #[.int .u32 (((netO s).getD (0, 0)).1 : Nat), .int .i64 (((netO s).getD (0, 0)).2 : Nat)], .bool (netO s).isSome]) ∧ Below W.heap.size W w' := by
  obtain ⟨R, hR⟩ : ∃ R, R = netO s := ⟨_, rfl⟩
  rw [← hR]
  rw [netO_cut] at hR
  obtain ⟨p, q, m, hc⟩ : ∃ p q m, cutL 47 s.data.toList = (p, q, m) := ⟨_, _, _, rfl⟩
  have hsz := cutL_len 47 s.data.toList
  rw [hc] at hR hsz
  simp only at hR hsz
  have hl : s.data.toList.length = s.size := rfl
  have HC := Lib.hid (fun u => rcut_ok s 47 u hs)
  rw [show cutV 47 s = .tuple #[.string (bs p), .string (bs q), .bool m] by unfold cutV; rw [hc]] at HC
  rw [show (((47 : UInt8).toNat : Nat) : Int) = 47 from rfl] at HC
  obtain ⟨P, hP⟩ : ∃ P, bs p = P := ⟨_, rfl⟩
  obtain ⟨Q, hQ⟩ : ∃ Q, bs q = Q := ⟨_, rfl⟩
  have HA := Lib.hid (fun u => raddr_ok P u (by rw [← hP, bs_size]; omega))
  have HPR := Lib.hid (fun u => rparse_ok Q u (by rw [← hQ, bs_size]; omega))
  rw [hP, hQ] at HC hR
  clear hP hQ hc hsz hl
  unfold upToO at hR
  cases m with
  | false =>
    have HN := Lib.hid (show R = none by rw [hR]; simp)
    obtain ⟨pn, pb, hpe⟩ := parE_is (parseS Q)
    rw [hpe] at HPR
    clear hR hpe
    go_enter Try.func14, Try.ntmps14
    go_upto_region 1 with (fail)
    obtain ⟨W1, hW1⟩ : ∃ W1, W.alloc (.cells #[.int .u32 0, .int .i64 0] 24) = W1 := ⟨_, rfl⟩
    have hz : Bk W1 W.heap.size 24 #[.int .u32 0, .int .i64 0] := by rw [← hW1]; exact Bk.new _ _ _
    have hB : Below W.heap.size W W1 := by rw [← hW1]; exact (Below.refl _ _).alloc (Nat.le_refl _) _
    rw [hW1]
    clear hW1
    have c0 : W1.cell? ⟨W.heap.size, 0, none⟩ = some (.int .u32 0) := by rw [hz.cell]; rfl
    have c1 : W1.cell? ⟨W.heap.size, 1, none⟩ = some (.int .i64 0) := by rw [hz.cell]; rfl
    have f0 := hz.frozen 0
    have f1 := hz.frozen 1
    have HZ := Lib.hid hz
    clear hz
    go_wp2_with fail
    refine (HC.out _).mono ?_
    rintro e v1 ⟨rfl, k1, rfl⟩
    go_wp2_with fail
    refine (HA.out _).mono ?_
    rintro e v2 ⟨rfl, k2, rfl⟩
    go_wp2_with fail
    refine (HPR.out _).mono ?_
    rintro e v3 ⟨rfl, rfl⟩
    go_wp2_with fail
    all_goals first | (exfalso; have hh := ‹some undef = some (Value.bool _)›; injection hh with hh; cases hh; done) | skip
    have hzz := ((HZ.out.drewN (k1 + k2)).set 0 (.int .u32 0)).set 1 (.int .i64 0)
    have hBB : Below W.heap.size W (((W1.drewN (k1 + k2)).setCell ⟨W.heap.size, 0, none⟩ (.int .u32 0)).setCell ⟨W.heap.size, 1, none⟩ (.int .i64 0)) := (((below_drewN hB (k1 + k2))).setCell (p := ⟨W.heap.size, 0, none⟩) (Nat.le_refl _) _).setCell (p := ⟨W.heap.size, 1, none⟩) (Nat.le_refl _) _
    obtain ⟨u2, hu2⟩ : ∃ u2, ((W1.drewN (k1 + k2)).setCell ⟨W.heap.size, 0, none⟩ (.int .u32 0)).setCell ⟨W.heap.size, 1, none⟩ (.int .i64 0) = u2 := ⟨_, rfl⟩
    rw [hu2] at hzz hBB ⊢
    have q0 : u2.cell? ⟨W.heap.size, 0, none⟩ = some (.int .u32 0) := by rw [hzz.cell]; rfl
    have q1 : u2.cell? ⟨W.heap.size, 1, none⟩ = some (.int .i64 0) := by rw [hzz.cell]; rfl
    rw [HN.out]
    exact bodyPost_ret (v := .tuple #[.agg #[.int .u32 0, .int .i64 0], .bool false]) (by simp [results, Try.results14, go_sem, q0, q1]) rfl ⟨rfl, hBB⟩
  | true =>
    simp only [if_true] at hR
    cases ha : addrO P with
    | none =>
      rw [ha] at hR HA
      have HN := Lib.hid (show R = none by rw [hR])
      simp only [Option.getD_none, Option.isSome_none] at HA
      obtain ⟨pn, pb, hpe⟩ := parE_is (parseS Q)
      rw [hpe] at HPR
      clear hR ha hpe
      go_enter Try.func14, Try.ntmps14
      go_upto_region 1 with (fail)
      obtain ⟨W1, hW1⟩ : ∃ W1, W.alloc (.cells #[.int .u32 0, .int .i64 0] 24) = W1 := ⟨_, rfl⟩
      have hz : Bk W1 W.heap.size 24 #[.int .u32 0, .int .i64 0] := by rw [← hW1]; exact Bk.new _ _ _
      have hB : Below W.heap.size W W1 := by rw [← hW1]; exact (Below.refl _ _).alloc (Nat.le_refl _) _
      rw [hW1]
      clear hW1
      have c0 : W1.cell? ⟨W.heap.size, 0, none⟩ = some (.int .u32 0) := by rw [hz.cell]; rfl
      have c1 : W1.cell? ⟨W.heap.size, 1, none⟩ = some (.int .i64 0) := by rw [hz.cell]; rfl
      have f0 := hz.frozen 0
      have f1 := hz.frozen 1
      have HZ := Lib.hid hz
      clear hz
      go_wp2_with fail
      refine (HC.out _).mono ?_
      rintro e v1 ⟨rfl, k1, rfl⟩
      go_wp2_with fail
      refine (HA.out _).mono ?_
      rintro e v2 ⟨rfl, k2, rfl⟩
      go_wp2_with fail
      refine (HPR.out _).mono ?_
      rintro e v3 ⟨rfl, rfl⟩
      go_wp2_with fail
      all_goals first | (exfalso; have hh := ‹some undef = some (Value.bool _)›; injection hh with hh; cases hh; done) | skip
      have hzz := ((HZ.out.drewN (k1 + k2)).set 0 (.int .u32 0)).set 1 (.int .i64 0)
      have hBB : Below W.heap.size W (((W1.drewN (k1 + k2)).setCell ⟨W.heap.size, 0, none⟩ (.int .u32 0)).setCell ⟨W.heap.size, 1, none⟩ (.int .i64 0)) := (((below_drewN hB (k1 + k2))).setCell (p := ⟨W.heap.size, 0, none⟩) (Nat.le_refl _) _).setCell (p := ⟨W.heap.size, 1, none⟩) (Nat.le_refl _) _
      obtain ⟨u2, hu2⟩ : ∃ u2, ((W1.drewN (k1 + k2)).setCell ⟨W.heap.size, 0, none⟩ (.int .u32 0)).setCell ⟨W.heap.size, 1, none⟩ (.int .i64 0) = u2 := ⟨_, rfl⟩
      rw [hu2] at hzz hBB ⊢
      have q0 : u2.cell? ⟨W.heap.size, 0, none⟩ = some (.int .u32 0) := by rw [hzz.cell]; rfl
      have q1 : u2.cell? ⟨W.heap.size, 1, none⟩ = some (.int .i64 0) := by rw [hzz.cell]; rfl
      rw [HN.out]
      exact bodyPost_ret (v := .tuple #[.agg #[.int .u32 0, .int .i64 0], .bool false]) (by simp [results, Try.results14, go_sem, q0, q1]) rfl ⟨rfl, hBB⟩
    | some x =>
      have hx := (addr_is P x ha).1
      rw [ha] at hR HA
      simp only [Option.getD_some, Option.isSome_some] at HA
      clear ha
      cases hp : parseS Q with
      | none =>
        rw [hp] at hR HPR
        have HN := Lib.hid (show R = none by rw [hR])
        simp only [parE] at HPR
        clear hR hp
        go_enter Try.func14, Try.ntmps14
        go_upto_region 1 with (fail)
        obtain ⟨W1, hW1⟩ : ∃ W1, W.alloc (.cells #[.int .u32 0, .int .i64 0] 24) = W1 := ⟨_, rfl⟩
        have hz : Bk W1 W.heap.size 24 #[.int .u32 0, .int .i64 0] := by rw [← hW1]; exact Bk.new _ _ _
        have hB : Below W.heap.size W W1 := by rw [← hW1]; exact (Below.refl _ _).alloc (Nat.le_refl _) _
        rw [hW1]
        clear hW1
        have c0 : W1.cell? ⟨W.heap.size, 0, none⟩ = some (.int .u32 0) := by rw [hz.cell]; rfl
        have c1 : W1.cell? ⟨W.heap.size, 1, none⟩ = some (.int .i64 0) := by rw [hz.cell]; rfl
        have f0 := hz.frozen 0
        have f1 := hz.frozen 1
        have HZ := Lib.hid hz
        clear hz
        go_wp2_with fail
        refine (HC.out _).mono ?_
        rintro e v1 ⟨rfl, k1, rfl⟩
        go_wp2_with fail
        refine (HA.out _).mono ?_
        rintro e v2 ⟨rfl, k2, rfl⟩
        go_wp2_with fail
        refine (HPR.out _).mono ?_
        rintro e v3 ⟨rfl, rfl⟩
        go_wp2_with fail
        all_goals first | (exfalso; have hh := ‹some undef = some (Value.bool _)›; injection hh with hh; cases hh; done) | skip
        have hzz := ((HZ.out.drewN (k1 + k2)).set 0 (.int .u32 0)).set 1 (.int .i64 0)
        have hBB : Below W.heap.size W (((W1.drewN (k1 + k2)).setCell ⟨W.heap.size, 0, none⟩ (.int .u32 0)).setCell ⟨W.heap.size, 1, none⟩ (.int .i64 0)) := (((below_drewN hB (k1 + k2))).setCell (p := ⟨W.heap.size, 0, none⟩) (Nat.le_refl _) _).setCell (p := ⟨W.heap.size, 1, none⟩) (Nat.le_refl _) _
        obtain ⟨u2, hu2⟩ : ∃ u2, ((W1.drewN (k1 + k2)).setCell ⟨W.heap.size, 0, none⟩ (.int .u32 0)).setCell ⟨W.heap.size, 1, none⟩ (.int .i64 0) = u2 := ⟨_, rfl⟩
        rw [hu2] at hzz hBB ⊢
        have q0 : u2.cell? ⟨W.heap.size, 0, none⟩ = some (.int .u32 0) := by rw [hzz.cell]; rfl
        have q1 : u2.cell? ⟨W.heap.size, 1, none⟩ = some (.int .i64 0) := by rw [hzz.cell]; rfl
        rw [HN.out]
        exact bodyPost_ret (v := .tuple #[.agg #[.int .u32 0, .int .i64 0], .bool false]) (by simp [results, Try.results14, go_sem, q0, q1]) rfl ⟨rfl, hBB⟩
      | some nk =>
        obtain ⟨n, kk⟩ := nk
        have hn1 := (parse_is Q n kk hp).1
        rw [hp] at hR HPR
        simp only [parE] at HPR hR
        clear hp
        by_cases hle : n ≤ 32
        · rw [if_pos hle] at hR
          simp only at hR
          have d32 : decide ((32 : Int) < (n : Int)) = false := by simp <;> omega
          have HRT := Lib.hid (fun u => rright_ok x n u hx)
          cases hr : rightB x n with
          | true =>
            rw [hr] at hR HRT
            have HN := Lib.hid (show R = some (x, n) by rw [hR]; rfl)
            clear hR hr
            go_enter Try.func14, Try.ntmps14
            go_upto_region 1 with (fail)
            obtain ⟨W1, hW1⟩ : ∃ W1, W.alloc (.cells #[.int .u32 0, .int .i64 0] 24) = W1 := ⟨_, rfl⟩
            have hz : Bk W1 W.heap.size 24 #[.int .u32 0, .int .i64 0] := by rw [← hW1]; exact Bk.new _ _ _
            have hB : Below W.heap.size W W1 := by rw [← hW1]; exact (Below.refl _ _).alloc (Nat.le_refl _) _
            rw [hW1]
            clear hW1
            have c0 : W1.cell? ⟨W.heap.size, 0, none⟩ = some (.int .u32 0) := by rw [hz.cell]; rfl
            have c1 : W1.cell? ⟨W.heap.size, 1, none⟩ = some (.int .i64 0) := by rw [hz.cell]; rfl
            have f0 := hz.frozen 0
            have f1 := hz.frozen 1
            have HZ := Lib.hid hz
            clear hz
            go_wp2_with fail
            refine (HC.out _).mono ?_
            rintro e v1 ⟨rfl, k1, rfl⟩
            go_wp2_with fail
            refine (HA.out _).mono ?_
            rintro e v2 ⟨rfl, k2, rfl⟩
            go_wp2_with fail
            refine (HPR.out _).mono ?_
            rintro e v3 ⟨rfl, rfl⟩
            go_wp2_with fail
            refine (HRT.out _).mono ?_
            rintro e v4 ⟨rfl, hb4⟩
            have hz4 := (HZ.out.drewN (k1 + k2)).below hb4 (HZ.out.drewN (k1 + k2)).lt
            have hB4 := (below_drewN hB (k1 + k2)).trans (hb4.mono (below_drewN hB (k1 + k2)).size)
            have HZ4 := Lib.hid hz4
            have g0 : v4.cell? ⟨W.heap.size, 0, none⟩ = some (.int .u32 0) := by rw [hz4.cell]; rfl
            have g1 : v4.cell? ⟨W.heap.size, 1, none⟩ = some (.int .i64 0) := by rw [hz4.cell]; rfl
            have e0 := hz4.frozen 0
            have e1 := hz4.frozen 1
            clear hz4 hb4 c0 c1 f0 f1
            go_wp2_with fail
            have hzz := (HZ4.out.set 0 (.int .u32 (x : Int))).set 1 (.int .i64 (n : Int))
            have hBB : Below W.heap.size W ((v4.setCell ⟨W.heap.size, 0, none⟩ (.int .u32 (x : Int))).setCell ⟨W.heap.size, 1, none⟩ (.int .i64 (n : Int))) := ((hB4).setCell (p := ⟨W.heap.size, 0, none⟩) (Nat.le_refl _) _).setCell (p := ⟨W.heap.size, 1, none⟩) (Nat.le_refl _) _
            obtain ⟨u2, hu2⟩ : ∃ u2, (v4.setCell ⟨W.heap.size, 0, none⟩ (.int .u32 (x : Int))).setCell ⟨W.heap.size, 1, none⟩ (.int .i64 (n : Int)) = u2 := ⟨_, rfl⟩
            rw [hu2] at hzz hBB ⊢
            have q0 : u2.cell? ⟨W.heap.size, 0, none⟩ = some (.int .u32 (x : Int)) := by rw [hzz.cell]; rfl
            have q1 : u2.cell? ⟨W.heap.size, 1, none⟩ = some (.int .i64 (n : Int)) := by rw [hzz.cell]; rfl
            rw [HN.out]
            exact bodyPost_ret (v := .tuple #[.agg #[.int .u32 (x : Int), .int .i64 (n : Int)], .bool true]) (by simp [results, Try.results14, go_sem, q0, q1]) rfl ⟨rfl, hBB⟩
          | false =>
            rw [hr] at hR HRT
            have HN := Lib.hid (show R = none by rw [hR]; rfl)
            clear hR hr
            go_enter Try.func14, Try.ntmps14
            go_upto_region 1 with (fail)
            obtain ⟨W1, hW1⟩ : ∃ W1, W.alloc (.cells #[.int .u32 0, .int .i64 0] 24) = W1 := ⟨_, rfl⟩
            have hz : Bk W1 W.heap.size 24 #[.int .u32 0, .int .i64 0] := by rw [← hW1]; exact Bk.new _ _ _
            have hB : Below W.heap.size W W1 := by rw [← hW1]; exact (Below.refl _ _).alloc (Nat.le_refl _) _
            rw [hW1]
            clear hW1
            have c0 : W1.cell? ⟨W.heap.size, 0, none⟩ = some (.int .u32 0) := by rw [hz.cell]; rfl
            have c1 : W1.cell? ⟨W.heap.size, 1, none⟩ = some (.int .i64 0) := by rw [hz.cell]; rfl
            have f0 := hz.frozen 0
            have f1 := hz.frozen 1
            have HZ := Lib.hid hz
            clear hz
            go_wp2_with fail
            refine (HC.out _).mono ?_
            rintro e v1 ⟨rfl, k1, rfl⟩
            go_wp2_with fail
            refine (HA.out _).mono ?_
            rintro e v2 ⟨rfl, k2, rfl⟩
            go_wp2_with fail
            refine (HPR.out _).mono ?_
            rintro e v3 ⟨rfl, rfl⟩
            go_wp2_with fail
            refine (HRT.out _).mono ?_
            rintro e v4 ⟨rfl, hb4⟩
            have hz4 := (HZ.out.drewN (k1 + k2)).below hb4 (HZ.out.drewN (k1 + k2)).lt
            have hB4 := (below_drewN hB (k1 + k2)).trans (hb4.mono (below_drewN hB (k1 + k2)).size)
            have HZ4 := Lib.hid hz4
            have g0 : v4.cell? ⟨W.heap.size, 0, none⟩ = some (.int .u32 0) := by rw [hz4.cell]; rfl
            have g1 : v4.cell? ⟨W.heap.size, 1, none⟩ = some (.int .i64 0) := by rw [hz4.cell]; rfl
            have e0 := hz4.frozen 0
            have e1 := hz4.frozen 1
            clear hz4 hb4 c0 c1 f0 f1
            go_wp2_with fail
            have hzz := (HZ4.out.set 0 (.int .u32 0)).set 1 (.int .i64 0)
            have hBB : Below W.heap.size W ((v4.setCell ⟨W.heap.size, 0, none⟩ (.int .u32 0)).setCell ⟨W.heap.size, 1, none⟩ (.int .i64 0)) := ((hB4).setCell (p := ⟨W.heap.size, 0, none⟩) (Nat.le_refl _) _).setCell (p := ⟨W.heap.size, 1, none⟩) (Nat.le_refl _) _
            obtain ⟨u2, hu2⟩ : ∃ u2, (v4.setCell ⟨W.heap.size, 0, none⟩ (.int .u32 0)).setCell ⟨W.heap.size, 1, none⟩ (.int .i64 0) = u2 := ⟨_, rfl⟩
            rw [hu2] at hzz hBB ⊢
            have q0 : u2.cell? ⟨W.heap.size, 0, none⟩ = some (.int .u32 0) := by rw [hzz.cell]; rfl
            have q1 : u2.cell? ⟨W.heap.size, 1, none⟩ = some (.int .i64 0) := by rw [hzz.cell]; rfl
            rw [HN.out]
            exact bodyPost_ret (v := .tuple #[.agg #[.int .u32 0, .int .i64 0], .bool false]) (by simp [results, Try.results14, go_sem, q0, q1]) rfl ⟨rfl, hBB⟩
        · rw [if_neg hle] at hR
          simp only at hR
          have d32 : decide ((32 : Int) < (n : Int)) = true := by simp <;> omega
          have HN := Lib.hid (show R = none by rw [hR])
          clear hR
          go_enter Try.func14, Try.ntmps14
          go_upto_region 1 with (fail)
          obtain ⟨W1, hW1⟩ : ∃ W1, W.alloc (.cells #[.int .u32 0, .int .i64 0] 24) = W1 := ⟨_, rfl⟩
          have hz : Bk W1 W.heap.size 24 #[.int .u32 0, .int .i64 0] := by rw [← hW1]; exact Bk.new _ _ _
          have hB : Below W.heap.size W W1 := by rw [← hW1]; exact (Below.refl _ _).alloc (Nat.le_refl _) _
          rw [hW1]
          clear hW1
          have c0 : W1.cell? ⟨W.heap.size, 0, none⟩ = some (.int .u32 0) := by rw [hz.cell]; rfl
          have c1 : W1.cell? ⟨W.heap.size, 1, none⟩ = some (.int .i64 0) := by rw [hz.cell]; rfl
          have f0 := hz.frozen 0
          have f1 := hz.frozen 1
          have HZ := Lib.hid hz
          clear hz
          go_wp2_with fail
          refine (HC.out _).mono ?_
          rintro e v1 ⟨rfl, k1, rfl⟩
          go_wp2_with fail
          refine (HA.out _).mono ?_
          rintro e v2 ⟨rfl, k2, rfl⟩
          go_wp2_with fail
          refine (HPR.out _).mono ?_
          rintro e v3 ⟨rfl, rfl⟩
          go_wp2_with fail
          all_goals first | (exfalso; have hh := ‹some undef = some (Value.bool _)›; injection hh with hh; cases hh; done) | skip
          have hzz := ((HZ.out.drewN (k1 + k2)).set 0 (.int .u32 0)).set 1 (.int .i64 0)
          have hBB : Below W.heap.size W (((W1.drewN (k1 + k2)).setCell ⟨W.heap.size, 0, none⟩ (.int .u32 0)).setCell ⟨W.heap.size, 1, none⟩ (.int .i64 0)) := (((below_drewN hB (k1 + k2))).setCell (p := ⟨W.heap.size, 0, none⟩) (Nat.le_refl _) _).setCell (p := ⟨W.heap.size, 1, none⟩) (Nat.le_refl _) _
          obtain ⟨u2, hu2⟩ : ∃ u2, ((W1.drewN (k1 + k2)).setCell ⟨W.heap.size, 0, none⟩ (.int .u32 0)).setCell ⟨W.heap.size, 1, none⟩ (.int .i64 0) = u2 := ⟨_, rfl⟩
          rw [hu2] at hzz hBB ⊢
          have q0 : u2.cell? ⟨W.heap.size, 0, none⟩ = some (.int .u32 0) := by rw [hzz.cell]; rfl
          have q1 : u2.cell? ⟨W.heap.size, 1, none⟩ = some (.int .i64 0) := by rw [hzz.cell]; rfl
          rw [HN.out]
          exact bodyPost_ret (v := .tuple #[.agg #[.int .u32 0, .int .i64 0], .bool false]) (by simp [results, Try.results14, go_sem, q0, q1]) rfl ⟨rfl, hBB⟩
end Go.Proofs.Ytmdijhfkobcbjaa
