/- The walk of SyntaxBack. -/
import Derived.Test.YtmdijhfkobcbjaaSTwo
import Derived.Test.YtmdijhfkobcbjaaArr
import Derived.Deep.Cut
namespace Go.Proofs.Ytmdijhfkobcbjaa
set_option linter.unusedVariables false
set_option linter.unusedSimpArgs false
open Go.RowKit

theorem not_both (s : ByteArray) (b : Nat) (x : Nat × Nat) (h1 : addrO s = some b) (h2 : netO s = some x) : False := by
  obtain ⟨_, e1⟩ := addr_is s b h1
  obtain ⟨_, _, hr, e2⟩ := net_is s x.1 x.2 h2
  have e := bs_inj (e1.symm.trans e2)
  have h47 : (47 : UInt8) ∈ slashL x.1 x.2 := by
    unfold slashL
    rw [if_pos hr]
    simp
  rw [← e] at h47
  exact dots_no b h47
theorem netO_nil : netO (bs []) = none := by decide +kernel

set_option maxRecDepth 100000 in
set_option maxHeartbeats 8000000 in
theorem walk_SyntaxBack (a0 n0 m : Int) (s : ByteArray) (W : World) (wa : (Lit.int .u32 a0).wf = true) (wn : (Lit.int .u32 n0).wf = true) (wm : (Lit.int .i64 m).wf = true) (ws : s.size ≤ maxLen) :
    Calls Try.prog 4 #[.int .u32 a0, .agg #[.int .u32 n0, .int .i64 m], .string s] W fun e w' => e = .returned (.bool true) ∧ Below W.heap.size W w' := by
  obtain ⟨a, ha, rfl⟩ := nat_u32 a0 wa
  obtain ⟨n, hn, rfl⟩ := nat_u32 n0 wn
  clear wa wn wm
  unfold maxLen at ws
  have H0 := Lib.hid (NetAt.new W n m 24)
  by_cases g1 : 9000 < s.size
  · go_enter Try.func4, Try.ntmps4
    go_wp2_with fail
    refine (shead_ok _).mono ?_
    rintro e w1 ⟨rfl, hb1⟩
    have hB := (H0.out.on H0.out.b.size hb1).b
    go_wp2_with fail
    go_ret
    exact ⟨rfl, hB⟩
  have hsz : s.size ≤ 9000 := by omega
  clear g1 ws
  obtain ⟨D, hD⟩ : ∃ D, bs (dotsB a) = D := ⟨_, rfl⟩
  have A1 := Lib.hid (fun u => dots_ok a u ha)
  rw [hD] at A1
  have A2 := Lib.hid (fun u => addr_ok D u (by rw [← hD, bs_size]; have := dots_len a; omega))
  rw [show addrO D = some a by rw [← hD]; exact addr_back a ha] at A2
  simp only [Option.getD_some, Option.isSome_some] at A2
  obtain ⟨Tt, hT⟩ : ∃ Tt, bs (slashL n m) = Tt := ⟨_, rfl⟩
  have S1 := Lib.hid (fun u => slash_ok n m u hn)
  rw [hT] at S1
  have A3 := Lib.hid (fun u => addr_ok s u (by omega))
  have N3 := Lib.hid (fun u => net_ok s u (by omega))
  clear hD
  by_cases hr : rightB n m = true
  · have hm0 : 0 ≤ m ∧ m ≤ 32 := by
      unfold rightB at hr
      simp only [Bool.and_eq_true, decide_eq_true_eq] at hr
      exact hr.1
    have hTl : slashL n m = dotsB n ++ 47 :: decB m.toNat := by unfold slashL; rw [if_pos hr]
    have hTz : Tt.size ≤ 20 := by
      rw [← hT, bs_size, hTl, List.length_append, List.length_cons]
      have := dots_len n
      have := dec_len3 m.toNat (by omega)
      omega
    have hTe : (Tt.toList == []) = false := by
      rw [← hT, bs_list, hTl, beq_eq_false_iff_ne]
      intro h
      have := congrArg List.length h
      rw [List.length_append, List.length_cons] at this
      simp at this
    have N1 := Lib.hid (fun u => net_ok Tt u (by omega))
    rw [show netO Tt = some (n, m.toNat) by rw [← hT]; exact net_back n m hn hr] at N1
    simp only [Option.getD_some, Option.isSome_some] at N1
    rw [show ((m.toNat : Nat) : Int) = m by omega] at N1
    clear hT hTl hr
    have hTn : (!(Tt.toList == [])) = true := by rw [hTe]; rfl
    go_enter Try.func4, Try.ntmps4
    go_wp2_with fail
    refine (shead_ok _).mono ?_
    rintro e w1 ⟨rfl, hb1⟩
    have H := Lib.hid (H0.out.on H0.out.b.size hb1)
    clear hb1
    go_wp2_with fail
    refine (A1.out _).mono ?_
    rintro e w2 ⟨rfl, hb2⟩
    have H := Lib.hid (H.out.on H.out.b.size hb2)
    clear hb2
    go_wp2_with fail
    refine (A2.out _).mono ?_
    rintro e w3 ⟨rfl, hb3⟩
    have H := Lib.hid (H.out.on H.out.b.size hb3)
    clear hb3
    have c0 := H.out.c0
    have c1 := H.out.c1
    go_wp2_with fail
    refine (S1.out _).mono ?_
    rintro e w4 ⟨rfl, hb4⟩
    have H := Lib.hid (H.out.on H.out.b.size hb4)
    clear hb4 c0 c1
    go_wp2_with fail
    refine (N1.out _).mono ?_
    rintro e w5 ⟨rfl, hb5⟩
    have H := Lib.hid (H.out.on H.out.b.size hb5)
    clear hb5
    go_upto_region 9 with (fail)
    have H := Lib.hid (H.out.on H.out.b.size ((Below.refl w5.heap.size w5).alloc (Nat.le_refl _) (.cells #[.int .u32 n, .int .i64 m] 24)))
    have c0 := H.out.c0
    have c1 := H.out.c1
    go_wp2_with fail
    cases hA : addrO s with
    | none =>
      rw [hA] at A3
      simp only [Option.getD_none, Option.isSome_none] at A3
      cases hN : netO s with
      | none =>
        rw [hN] at N3
        simp only [Option.getD_none, Option.isSome_none] at N3
        clear hA hN
        refine (A3.out _).mono ?_
        rintro e w6 ⟨rfl, hb6⟩
        have H := Lib.hid (H.out.on H.out.b.size hb6)
        clear hb6 c0 c1
        go_wp2_with fail
        refine (N3.out _).mono ?_
        rintro e w7 ⟨rfl, hb7⟩
        have H := Lib.hid (H.out.on H.out.b.size hb7)
        clear hb7
        have H := Lib.hid (H.out.on H.out.b.size ((Below.refl w7.heap.size w7).alloc (Nat.le_refl _) (.cells #[.int .u32 0, .int .i64 0] 24)))
        go_wp2_with fail
        all_goals (first | (go_ret; exact ⟨rfl, H.out.b⟩) | (exfalso; have hh := ‹some undef = some (Value.bool _)›; injection hh with hh; cases hh))
      | some xy =>
        obtain ⟨x, y⟩ := xy
        have hx := net_is s x y hN
        have S2 := Lib.hid (fun u => slash_ok x y u hx.1)
        rw [← hx.2.2.2] at S2
        rw [hN] at N3
        simp only [Option.getD_some, Option.isSome_some] at N3
        clear hA hN hx
        refine (A3.out _).mono ?_
        rintro e w6 ⟨rfl, hb6⟩
        have H := Lib.hid (H.out.on H.out.b.size hb6)
        clear hb6 c0 c1
        go_wp2_with fail
        refine (N3.out _).mono ?_
        rintro e w7 ⟨rfl, hb7⟩
        have H := Lib.hid (H.out.on H.out.b.size hb7)
        clear hb7
        have H := Lib.hid (H.out.on H.out.b.size ((Below.refl w7.heap.size w7).alloc (Nat.le_refl _) (.cells #[.int .u32 x, .int .i64 y] 24)))
        have Hm := NetAt.new w7 x (y : Int) 24
        have c0 := Hm.c0
        have c1 := Hm.c1
        clear Hm
        go_wp2_with fail
        refine (S2.out _).mono ?_
        rintro e w8 ⟨rfl, hb8⟩
        have H := Lib.hid (H.out.on H.out.b.size hb8)
        clear hb8 c0 c1
        go_wp2_with fail
        all_goals (first | (go_ret; exact ⟨rfl, H.out.b⟩) | (exfalso; have hh := ‹some undef = some (Value.bool _)›; injection hh with hh; cases hh))
    | some b =>
      have hN : netO s = none := by
        cases hN : netO s with
        | none => rfl
        | some xy => exact (not_both s b xy hA hN).elim
      have hbx := addr_is s b hA
      have D2 := Lib.hid (fun u => dots_ok b u hbx.1)
      rw [← hbx.2] at D2
      rw [hA] at A3
      simp only [Option.getD_some, Option.isSome_some] at A3
      rw [hN] at N3
      simp only [Option.getD_none, Option.isSome_none] at N3
      clear hA hN hbx
      refine (A3.out _).mono ?_
      rintro e w6 ⟨rfl, hb6⟩
      have H := Lib.hid (H.out.on H.out.b.size hb6)
      clear hb6 c0 c1
      go_wp2_with fail
      refine (N3.out _).mono ?_
      rintro e w7 ⟨rfl, hb7⟩
      have H := Lib.hid (H.out.on H.out.b.size hb7)
      clear hb7
      have H := Lib.hid (H.out.on H.out.b.size ((Below.refl w7.heap.size w7).alloc (Nat.le_refl _) (.cells #[.int .u32 0, .int .i64 0] 24)))
      go_wp2_with fail
      refine (D2.out _).mono ?_
      rintro e w8 ⟨rfl, hb8⟩
      have H := Lib.hid (H.out.on H.out.b.size hb8)
      clear hb8
      go_wp2_with fail
      all_goals (first | (go_ret; exact ⟨rfl, H.out.b⟩) | (exfalso; have hh := ‹some undef = some (Value.bool _)›; injection hh with hh; cases hh))
  · have hr2 : rightB n m = false := by simpa using hr
    have hTe : Tt = ⟨#[]⟩ := by rw [← hT]; unfold slashL; rw [hr2]; rfl
    subst hTe
    have N1 := Lib.hid (fun u => net_ok ⟨#[]⟩ u (by decide))
    rw [show netO ⟨#[]⟩ = none from netO_nil] at N1
    simp only [Option.getD_none, Option.isSome_none] at N1
    clear hT hr hr2
    go_enter Try.func4, Try.ntmps4
    go_wp2_with fail
    refine (shead_ok _).mono ?_
    rintro e w1 ⟨rfl, hb1⟩
    have H := Lib.hid (H0.out.on H0.out.b.size hb1)
    clear hb1
    go_wp2_with fail
    refine (A1.out _).mono ?_
    rintro e w2 ⟨rfl, hb2⟩
    have H := Lib.hid (H.out.on H.out.b.size hb2)
    clear hb2
    go_wp2_with fail
    refine (A2.out _).mono ?_
    rintro e w3 ⟨rfl, hb3⟩
    have H := Lib.hid (H.out.on H.out.b.size hb3)
    clear hb3
    have c0 := H.out.c0
    have c1 := H.out.c1
    go_wp2_with fail
    refine (S1.out _).mono ?_
    rintro e w4 ⟨rfl, hb4⟩
    have H := Lib.hid (H.out.on H.out.b.size hb4)
    clear hb4 c0 c1
    go_wp2_with fail
    refine (N1.out _).mono ?_
    rintro e w5 ⟨rfl, hb5⟩
    have H := Lib.hid (H.out.on H.out.b.size hb5)
    clear hb5
    have H := Lib.hid (H.out.on H.out.b.size ((Below.refl w5.heap.size w5).alloc (Nat.le_refl _) (.cells #[.int .u32 0, .int .i64 0] 24)))
    have c0 := H.out.c0
    have c1 := H.out.c1
    go_wp2_with fail
    cases hA : addrO s with
    | none =>
      rw [hA] at A3
      simp only [Option.getD_none, Option.isSome_none] at A3
      cases hN : netO s with
      | none =>
        rw [hN] at N3
        simp only [Option.getD_none, Option.isSome_none] at N3
        clear hA hN
        refine (A3.out _).mono ?_
        rintro e w6 ⟨rfl, hb6⟩
        have H := Lib.hid (H.out.on H.out.b.size hb6)
        clear hb6 c0 c1
        go_wp2_with fail
        refine (N3.out _).mono ?_
        rintro e w7 ⟨rfl, hb7⟩
        have H := Lib.hid (H.out.on H.out.b.size hb7)
        clear hb7
        have H := Lib.hid (H.out.on H.out.b.size ((Below.refl w7.heap.size w7).alloc (Nat.le_refl _) (.cells #[.int .u32 0, .int .i64 0] 24)))
        go_wp2_with fail
        all_goals (first | (go_ret; exact ⟨rfl, H.out.b⟩) | (exfalso; have hh := ‹some undef = some (Value.bool _)›; injection hh with hh; cases hh))
      | some xy =>
        obtain ⟨x, y⟩ := xy
        have hx := net_is s x y hN
        have S2 := Lib.hid (fun u => slash_ok x y u hx.1)
        rw [← hx.2.2.2] at S2
        rw [hN] at N3
        simp only [Option.getD_some, Option.isSome_some] at N3
        clear hA hN hx
        refine (A3.out _).mono ?_
        rintro e w6 ⟨rfl, hb6⟩
        have H := Lib.hid (H.out.on H.out.b.size hb6)
        clear hb6 c0 c1
        go_wp2_with fail
        refine (N3.out _).mono ?_
        rintro e w7 ⟨rfl, hb7⟩
        have H := Lib.hid (H.out.on H.out.b.size hb7)
        clear hb7
        have H := Lib.hid (H.out.on H.out.b.size ((Below.refl w7.heap.size w7).alloc (Nat.le_refl _) (.cells #[.int .u32 x, .int .i64 y] 24)))
        have Hm := NetAt.new w7 x (y : Int) 24
        have c0 := Hm.c0
        have c1 := Hm.c1
        clear Hm
        go_wp2_with fail
        refine (S2.out _).mono ?_
        rintro e w8 ⟨rfl, hb8⟩
        have H := Lib.hid (H.out.on H.out.b.size hb8)
        clear hb8 c0 c1
        go_wp2_with fail
        all_goals (first | (go_ret; exact ⟨rfl, H.out.b⟩) | (exfalso; have hh := ‹some undef = some (Value.bool _)›; injection hh with hh; cases hh))
    | some b =>
      have hN : netO s = none := by
        cases hN : netO s with
        | none => rfl
        | some xy => exact (not_both s b xy hA hN).elim
      have hbx := addr_is s b hA
      have D2 := Lib.hid (fun u => dots_ok b u hbx.1)
      rw [← hbx.2] at D2
      rw [hA] at A3
      simp only [Option.getD_some, Option.isSome_some] at A3
      rw [hN] at N3
      simp only [Option.getD_none, Option.isSome_none] at N3
      clear hA hN hbx
      refine (A3.out _).mono ?_
      rintro e w6 ⟨rfl, hb6⟩
      have H := Lib.hid (H.out.on H.out.b.size hb6)
      clear hb6 c0 c1
      go_wp2_with fail
      refine (N3.out _).mono ?_
      rintro e w7 ⟨rfl, hb7⟩
      have H := Lib.hid (H.out.on H.out.b.size hb7)
      clear hb7
      have H := Lib.hid (H.out.on H.out.b.size ((Below.refl w7.heap.size w7).alloc (Nat.le_refl _) (.cells #[.int .u32 0, .int .i64 0] 24)))
      go_wp2_with fail
      refine (D2.out _).mono ?_
      rintro e w8 ⟨rfl, hb8⟩
      have H := Lib.hid (H.out.on H.out.b.size hb8)
      clear hb8
      go_wp2_with fail
      all_goals (first | (go_ret; exact ⟨rfl, H.out.b⟩) | (exfalso; have hh := ‹some undef = some (Value.bool _)›; injection hh with hh; cases hh))
end Go.Proofs.Ytmdijhfkobcbjaa
