/- The document's own: rightTenant, Right: their contracts. (Written by gen_rten.py.) -/
import Derived.Test.YtekobdmlgbffnaaGreatDoorCg4
import Derived.Test.YtekobdmlgbffnaaGreatDoorG21
import Derived.BigRegion
import Derived.Deep.Cut
import Derived.Deep.CutRange
import Derived.Deep.RegionHeld3
namespace Go.Proofs.YtekobdmlgbffnaaGreatDoor
set_option linter.unusedVariables false
set_option maxRecDepth 100000
set_option linter.unusedSimpArgs false
open Go.RowKit

theorem gen_qT {Q : Exit → Act → World → Prop} {e : Exit} {a : Act} {w : World} (S : World → Prop) (hS : S w) (h : ∀ u, S u → Q e a u) : Q e a w := h w hS
def zeroTk9 : Tk := ⟨ByteArray.empty, ByteArray.empty, 0⟩
/-- Are these tokens right, the first one's name greater than that? -/
def tksB (z : ByteArray) (r : List Tk) : Bool := rise z (r.map (·.name)) && r.all tokB
theorem tksB_cons (z : ByteArray) (x : Tk) (r : List Tk) : tksB z (x :: r) = (nameB x.name && ltS z x.name && tokB x && tksB x.name r) := by
  unfold tksB
  rw [List.map_cons, rise, List.all_cons]
  cases nameB x.name <;> cases ltS z x.name <;> cases tokB x <;> simp
theorem lt_empty {x : ByteArray} (h : nameB x = true) : ltS ByteArray.empty x = true := by
  unfold ltS
  rw [ByteArray.toList_eq, ByteArray.toList_eq]
  unfold nameB at h
  simp only [Bool.and_eq_true, decide_eq_true_eq] at h
  have h1 := h.1.1.1.1
  have h2 : x.data.toList.length = x.size := rfl
  cases hx : x.data.toList with
  | nil => rw [hx] at h2; simp at h2; omega
  | cons c r => rfl
theorem tokB_not {k : Tk} (h : ¬ (1 ≤ k.sec.size ∧ k.sec.size ≤ 32 ∧ 0 ≤ k.till ∧ k.till ≤ 1099511627776)) : tokB k = false := by
  cases hq : tokB k with
  | false => rfl
  | true =>
    unfold tokB at hq
    simp only [Bool.and_eq_true, decide_eq_true_eq] at hq
    exact absurd ⟨hq.1.1.1, hq.1.1.2, hq.1.2, hq.2⟩ h
theorem tokB_yes {k : Tk} (h : 1 ≤ k.sec.size ∧ k.sec.size ≤ 32 ∧ 0 ≤ k.till ∧ k.till ≤ 1099511627776) : tokB k = true := by
  unfold tokB
  simp only [Bool.and_eq_true, decide_eq_true_eq]
  exact ⟨⟨⟨h.1, h.2.1⟩, h.2.2.1⟩, h.2.2.2⟩
theorem ten_eq (t : Tn) : (nameB t.name && tenB t) = (nameB t.name && (decide (0 ≤ t.names) && decide (t.names ≤ 8) && decide (0 ≤ t.visitors) && decide (t.visitors ≤ 8) && decide (t.nets.length ≤ 4) && decide (t.toks.length ≤ 4)) && (t.nets.all netB && tksB ByteArray.empty t.toks)) := by
  unfold tenB quoB tksB
  cases nameB t.name <;> cases decide (0 ≤ t.names) <;> cases decide (t.names ≤ 8) <;> cases decide (0 ≤ t.visitors) <;> cases decide (t.visitors ≤ 8) <;> cases decide (t.nets.length ≤ 4) <;> cases decide (t.toks.length ≤ 4) <;> cases t.nets.all netB <;> cases rise ByteArray.empty (t.toks.map (·.name)) <;> simp

set_option maxRecDepth 100000 in
set_option maxHeartbeats 16000000 in
theorem rften_ok (x : Tv) (w : World) (h : RT1 w x) :
    Calls Tryz.prog 47 #[.agg (tcs x)] w fun e w' => e = .returned (.bool (nameB x.t.name && tenB x.t)) ∧ Below w.heap.size w w' := by
  rw [ten_eq]
  obtain ⟨⟨nm, a, b, nl, kl⟩, An, cn, Ak, ck⟩ := x
  obtain ⟨hn, hk, hfn, hfk, hlt, hsz, hszk⟩ := h
  dsimp only at hn hk hfn hfk hlt hsz hszk ⊢
  obtain ⟨n, hnn⟩ : ∃ n, nl.length = n := ⟨_, rfl⟩
  obtain ⟨m, hmm⟩ : ∃ m, kl.length = m := ⟨_, rfl⟩
  have HNN := Lib.hid hnn
  have HMM := Lib.hid hmm
  simp only [tcs, hnn, hmm]
  have hf1 := hfn.cap
  have hf2 := hfn.max
  have hf3 := hfk.cap
  have hf4 := hfk.max
  rw [hnn] at hf1
  rw [hmm] at hf3
  have hn9 : n ≤ 9223372036854775807 := by omega
  have hm9 : m ≤ 9223372036854775807 := by omega
  have HRN := Lib.hid hn
  have HRK := Lib.hid hk
  have HLT := Lib.hid hlt
  have HSK := Lib.hid hszk
  have HNM := Lib.hid (fun u => rname_ok nm u hsz)
  have HX := Lib.hid (show Bx w w.heap.size 33 #[.string nm, .int .i64 a, .int .i64 b, .slice An n cn, .slice Ak m ck] (w.alloc (.cells #[.string nm, .int .i64 a, .int .i64 b, .slice An n cn, .slice Ak m ck] 33)) from Bx.new _ _ _)
  have e0 : (w.alloc (.cells #[.string nm, .int .i64 a, .int .i64 b, .slice An n cn, .slice Ak m ck] 33)).cell? ⟨w.heap.size, 0, none⟩ = some (.string nm) := HX.out.cell 0
  have e1 : (w.alloc (.cells #[.string nm, .int .i64 a, .int .i64 b, .slice An n cn, .slice Ak m ck] 33)).cell? ⟨w.heap.size, 1, none⟩ = some (.int .i64 a) := HX.out.cell 1
  have e2 : (w.alloc (.cells #[.string nm, .int .i64 a, .int .i64 b, .slice An n cn, .slice Ak m ck] 33)).cell? ⟨w.heap.size, 2, none⟩ = some (.int .i64 b) := HX.out.cell 2
  have e3 : (w.alloc (.cells #[.string nm, .int .i64 a, .int .i64 b, .slice An n cn, .slice Ak m ck] 33)).cell? ⟨w.heap.size, 3, none⟩ = some (.slice An n cn) := HX.out.cell 3
  have e4 : (w.alloc (.cells #[.string nm, .int .i64 a, .int .i64 b, .slice An n cn, .slice Ak m ck] 33)).cell? ⟨w.heap.size, 4, none⟩ = some (.slice Ak m ck) := HX.out.cell 4
  obtain ⟨R2, hR2⟩ : ∃ R2, (nl.all netB && tksB ByteArray.empty kl) = R2 := ⟨_, rfl⟩
  have HR2 := Lib.hid hR2
  rw [hR2]
  obtain ⟨B0, hB0⟩ : ∃ B0, nameB nm = B0 := ⟨_, rfl⟩
  rw [hB0] at HNM ⊢
  obtain ⟨V, hV⟩ : ∃ V, (B0 && (decide (0 ≤ a) && decide (a ≤ 8) && decide (0 ≤ b) && decide (b ≤ 8) && decide (n ≤ 4) && decide (m ≤ 4)) && R2) = V := ⟨_, rfl⟩
  rw [hV]
  have HV := Lib.hid hV
  clear hV hn hk hfn hfk hlt hsz hszk hnn hmm hR2 hB0 hf1 hf2 hf3 hf4
  go_enter Tryz.func47, Tryz.ntmps47
  cases B0 with
  | false =>
    go_wp2_with (go_at_call 87; (with_reducible refine (HNM.out _).mono ?_); rintro e u1 ⟨rfl, rfl⟩)
    go_ret
    exact ⟨by rw [← HV.out]; rfl, HX.out.l⟩
  | true =>
    by_cases h0 : (0 : Int) ≤ a
    case neg =>
      have f0 : a < 0 := by omega
      have HVF := Lib.hid (show V = false by rw [← HV.out, decide_eq_false h0]; simp)
      go_wp2_with (go_at_call 87; (with_reducible refine (HNM.out _).mono ?_); rintro e u1 ⟨rfl, rfl⟩)
      go_ret
      exact ⟨by rw [HVF.out]; rfl, HX.out.l⟩
    have h0t0 : ¬ a < 0 := by omega
    by_cases h1 : a ≤ 8
    case neg =>
      have f0 : a > 8 := by omega
      have f1 : (8 : Int) < a := by omega
      have HVF := Lib.hid (show V = false by rw [← HV.out, decide_eq_false h1]; simp)
      go_wp2_with (go_at_call 87; (with_reducible refine (HNM.out _).mono ?_); rintro e u1 ⟨rfl, rfl⟩)
      go_ret
      exact ⟨by rw [HVF.out]; rfl, HX.out.l⟩
    have h1t0 : ¬ a > 8 := by omega
    have h1t1 : ¬ (8 : Int) < a := by omega
    by_cases h2 : (0 : Int) ≤ b
    case neg =>
      have f0 : b < 0 := by omega
      have HVF := Lib.hid (show V = false by rw [← HV.out, decide_eq_false h2]; simp)
      go_wp2_with (go_at_call 87; (with_reducible refine (HNM.out _).mono ?_); rintro e u1 ⟨rfl, rfl⟩)
      go_ret
      exact ⟨by rw [HVF.out]; rfl, HX.out.l⟩
    have h2t0 : ¬ b < 0 := by omega
    by_cases h3 : b ≤ 8
    case neg =>
      have f0 : b > 8 := by omega
      have f1 : (8 : Int) < b := by omega
      have HVF := Lib.hid (show V = false by rw [← HV.out, decide_eq_false h3]; simp)
      go_wp2_with (go_at_call 87; (with_reducible refine (HNM.out _).mono ?_); rintro e u1 ⟨rfl, rfl⟩)
      go_ret
      exact ⟨by rw [HVF.out]; rfl, HX.out.l⟩
    have h3t0 : ¬ b > 8 := by omega
    have h3t1 : ¬ (8 : Int) < b := by omega
    by_cases h4 : n ≤ 4
    case neg =>
      have f0 : (n : Int) > 4 := by omega
      have f1 : (4 : Int) < (n : Int) := by omega
      have HVF := Lib.hid (show V = false by rw [← HV.out, decide_eq_false h4]; simp)
      go_wp2_with (go_at_call 87; (with_reducible refine (HNM.out _).mono ?_); rintro e u1 ⟨rfl, rfl⟩)
      go_ret
      exact ⟨by rw [HVF.out]; rfl, HX.out.l⟩
    have h4t0 : ¬ (n : Int) > 4 := by omega
    have h4t1 : ¬ (4 : Int) < (n : Int) := by omega
    by_cases h5 : m ≤ 4
    case neg =>
      have f0 : (m : Int) > 4 := by omega
      have f1 : (4 : Int) < (m : Int) := by omega
      have HVF := Lib.hid (show V = false by rw [← HV.out, decide_eq_false h5]; simp)
      go_wp2_with (go_at_call 87; (with_reducible refine (HNM.out _).mono ?_); rintro e u1 ⟨rfl, rfl⟩)
      go_ret
      exact ⟨by rw [HVF.out]; rfl, HX.out.l⟩
    have h5t0 : ¬ (m : Int) > 4 := by omega
    have h5t1 : ¬ (4 : Int) < (m : Int) := by omega
    have hVR : V = R2 := by rw [← HV.out, decide_eq_true h0, decide_eq_true h1, decide_eq_true h2, decide_eq_true h3, decide_eq_true h4, decide_eq_true h5]; rfl
    rw [hVR]
    clear hVR HV
    go_wp2_with (go_at_call 87; (with_reducible refine (HNM.out _).mono ?_); rintro e u1 ⟨rfl, rfl⟩)
    clear e0 e1 e2 e3 e4
    obtain ⟨v0, hv0⟩ : ∃ v, w.alloc (.cells #[.string nm, .int .i64 a, .int .i64 b, .slice An n cn, .slice Ak m ck] 33) = v := ⟨_, rfl⟩
    rw [hv0] at HX
    try rw [hv0]
    clear hv0
    go_loopw [3] (fun v3 wr => ∃ (i : Nat), i ≤ n ∧ v3 = .int .i64 (i : Int) ∧ Hid (∀ x ∈ nl.take i, netB x = true) ∧ Hid (Bx w w.heap.size 33 #[.string nm, .int .i64 a, .int .i64 b, .slice An n cn, .slice Ak m ck] wr)) (fun v3 _ => n - (intOf v3).toNat)
    case atStart => exact ⟨0, by omega, rfl, Lib.hid (fun x hx => by simp at hx), HX⟩
    case round =>
      obtain ⟨i, hi, rfl, HA, HB⟩ := hrel
      have e3 : wr.cell? ⟨w.heap.size, 3, none⟩ = some (.slice An n cn) := HB.out.cell 3
      by_cases hi1 : i < n
      · have hi2 : (i : Int) < (n : Int) := by omega
        obtain ⟨bb, o, x, rfl, hx, hc⟩ := RN.at2 HRN.out i (by rw [HNN.out]; exact hi1)
        obtain ⟨c0, c1⟩ := hc wr HB.out.l
        have hxl := HLT.out x (List.mem_of_getElem? hx)
        have HXI := Lib.hid hx
        obtain ⟨xa, xb⟩ := x
        dsimp only at c0 c1 hxl
        obtain ⟨q, hq⟩ : ∃ q, rightB xa xb = q := ⟨_, rfl⟩
        have HQ := Lib.hid hq
        have HRG := Lib.hid (fun u => rright_ok xa xb u hxl)
        rw [hq] at HRG
        clear hc hx hq hxl
        cases q with
        | true =>
          go_wp2_with (go_at_call 88; (with_reducible refine (HRG.out _).mono ?_); rintro e u2 ⟨rfl, hb⟩)
          go_roundw
          case rel =>
            refine ⟨i + 1, by omega, by go_num, Lib.hid (fun y hy => ?_), Lib.hid (HB.out.on hb)⟩
            rw [List.take_add_one, HXI.out, List.mem_append] at hy
            rcases hy with hy | hy
            · exact HA.out y hy
            · simp at hy; rw [hy]; exact HQ.out
          case measure => simp [intOf]; omega
        | false =>
          go_wp2_with (go_at_call 88; (with_reducible refine (HRG.out _).mono ?_); rintro e u2 ⟨rfl, hb⟩)
          go_ret
          refine ⟨?_, (HB.out.on hb).l⟩
          have h9 : nl.all netB = false := by
            cases hz : nl.all netB with
            | false => rfl
            | true => rw [List.all_eq_true] at hz; have := hz _ (List.mem_of_getElem? HXI.out); exact this.symm.trans HQ.out
          rw [← HR2.out, h9]; rfl
      · have hi2 : ¬ (i : Int) < (n : Int) := by omega
        have HALL := Lib.hid (show R2 = tksB ByteArray.empty kl by
          have h9 : nl.all netB = true := by
            rw [List.all_eq_true]
            intro y hy
            exact HA.out y (by rw [List.take_of_length_le (by rw [HNN.out]; omega)]; exact hy)
          rw [← HR2.out, h9]; rfl)
        clear HA
        go_wp2
        go_loopw [4] (fun v4 wr => ∃ (i : Nat), i ≤ m ∧ v4 = .int .i64 (i : Int) ∧ Hid (R2 = tksB (if i = 0 then ByteArray.empty else (kl.getD (i - 1) zeroTk9).name) (kl.drop i)) ∧ Hid (Bx w w.heap.size 33 #[.string nm, .int .i64 a, .int .i64 b, .slice An n cn, .slice Ak m ck] wr)) (fun v4 _ => m - (intOf v4).toNat)
        case atStart => exact ⟨0, by omega, rfl, Lib.hid (by rw [HALL.out, List.drop_zero]; rfl), HB⟩
        case round =>
          obtain ⟨i, hi, rfl, HD, HB⟩ := hrel
          have e4 : wr.cell? ⟨w.heap.size, 4, none⟩ = some (.slice Ak m ck) := HB.out.cell 4
          by_cases hi1 : i < m
          · have hi2 : (i : Int) < (m : Int) := by omega
            obtain ⟨bb, o, x, rfl, hx, hc⟩ := RK.at3 HRK.out i (by rw [HMM.out]; exact hi1)
            obtain ⟨c0, c1, c2⟩ := hc wr HB.out.l
            obtain ⟨p, hp⟩ : ∃ p, kl.getD (i - 1) zeroTk9 = p := ⟨_, rfl⟩
            have hpl : i - 1 < kl.length := by rw [HMM.out]; omega
            obtain ⟨bb2, o2, x2, hA2, hx2, hc2⟩ := RK.at3 HRK.out (i - 1) hpl
            obtain ⟨rfl, rfl⟩ : bb = bb2 ∧ o = o2 := by simpa using hA2
            have hpx : x2 = p := by rw [← hp, List.getD, hx2]; rfl
            subst hpx
            have HPC := Lib.hid (fun u (hu : Below w.heap.size w u) => (hc2 u hu).1)
            have hsx := (HSK.out x (List.mem_of_getElem? hx)).1
            have hsx2 := (HSK.out x (List.mem_of_getElem? hx)).2
            have HST := Lib.hid (show ∀ z, tksB z (kl.drop i) = (nameB x.name && ltS z x.name && tokB x && tksB x.name (kl.drop (i + 1))) from fun z => by
              rw [List.drop_eq_getElem_cons (by rw [HMM.out]; exact hi1), tksB_cons, (List.getElem?_eq_some_iff.1 hx).2])
            have HNX := Lib.hid (show (if i + 1 = 0 then ByteArray.empty else (kl.getD (i + 1 - 1) zeroTk9).name) = x.name by
              rw [if_neg (by omega), Nat.add_sub_cancel, List.getD, hx]; rfl)
            rw [hp] at HD
            obtain ⟨xn, xs, xu⟩ := x
            obtain ⟨pn, ps, pu⟩ := x2
            dsimp only at HST HNX HD HPC c0 c1 c2 hsx hsx2
            have HNA := Lib.hid (fun u => rname_ok xn u hsx)
            have HTY := Lib.hid (@tokB_yes ⟨xn, xs, xu⟩)
            have HTN := Lib.hid (@tokB_not ⟨xn, xs, xu⟩)
            dsimp only at HTY HTN
            obtain ⟨tb, htb⟩ : ∃ tb, tokB ⟨xn, xs, xu⟩ = tb := ⟨_, rfl⟩
            rw [htb] at HTY HTN HST
            obtain ⟨nb, hnb⟩ : ∃ nb, nameB xn = nb := ⟨_, rfl⟩
            have HLE := Lib.hid (show nb = true → ltS ByteArray.empty xn = true from fun h => lt_empty (hnb.trans h))
            rw [hnb] at HNA HST
            have hsq : (xs.toList == []) = decide (xs.size = 0) := by
              rw [ByteArray.toList_eq]
              have : xs.data.toList.length = xs.size := rfl
              cases hz : xs.data.toList with
              | nil => rw [hz] at this; simp at this; simp [← this]
              | cons y r => rw [hz] at this; simp at this; simp [← this]
            have HSQ := Lib.hid hsq
            have him : i ≤ 4 := by omega
            clear hc hx hc2 hx2 hp hpl hsx htb hnb hsq
            obtain ⟨wo, hwo⟩ : ∃ wo, wr = wo := ⟨_, rfl⟩
            subst wr
            go_upto_region 12 with fail
            have HK0 := Lib.hid (show Bx w w.heap.size 33 #[.string nm, .int .i64 a, .int .i64 b, .slice An n cn, .slice (some ⟨bb, o, none⟩) m ck] (wo.alloc (.cells #[.string xn, .string xs, .int .i64 xu] 37)) from HB.out.alloc (.cells #[.string xn, .string xs, .int .i64 xu] 37))
            have HK1 := Lib.hid (Bk.new wo 37 #[.string xn, .string xs, .int .i64 xu])
            obtain ⟨wn, hwn⟩ : ∃ wn, wo.alloc (.cells #[.string xn, .string xs, .int .i64 xu] 37) = wn := ⟨_, rfl⟩
            obtain ⟨gk, hgk⟩ : ∃ g, wo.heap.size = g := ⟨_, rfl⟩
            rw [hwn] at HK0
            rw [hwn, hgk] at HK1
            rw [hwn] ; try rw [hgk]
            clear hwn hgk c0 c1 c2 e4
            try simp only [List.cons_append, List.nil_append]
            try simp only [List.cons_append, List.nil_append]
            refine wp_region_held_drew (S := fun wz => Below wn.heap.size wn wz) (by kernel_rfl) ((Below.refl _ _).drew) (fun hHeld => ?_)
            refine take_at (some 68) (i := 0) (v := ?_) rfl rfl (by kernel_rfl) (by kernel_rfl) (by kernel_rfl) (fun _ _ _ h => h) (Or.inl ⟨by kernel_rfl, ?_⟩) hHeld ?_
            rotate_left
            · intro wz hSw; have hk := HK1.out.below hSw HK1.out.lt; have k0 : wz.cell? ⟨gk, 0, none⟩ = some (.string xn) := hk.cell 0; have k1 : wz.cell? ⟨gk, 1, none⟩ = some (.string xs) := hk.cell 1; have k2 : wz.cell? ⟨gk, 2, none⟩ = some (.int .i64 xu) := hk.cell 2; have ht := HK0.out.on hSw; have k4 : wz.cell? ⟨w.heap.size, 4, none⟩ = some (.slice (some ⟨bb, o, none⟩) m ck) := ht.cell 4; have k5 := HPC.out wz ht.l; clear hk ht; go_simp; try (with_reducible rfl)
            try simp only [Act.put, List.setIfInBounds_toArray, List.set_cons_zero, List.set_cons_succ, List.getElem_toArray, List.getElem_cons_succ, List.getElem_cons_zero]
            refine take_at (some 69) (i := 1) (v := ?_) rfl rfl (by kernel_rfl) (by kernel_rfl) (by kernel_rfl) (fun _ _ _ h => h) (Or.inl ⟨by kernel_rfl, ?_⟩) hHeld ?_
            rotate_left
            · intro wz hSw; have hk := HK1.out.below hSw HK1.out.lt; have k0 : wz.cell? ⟨gk, 0, none⟩ = some (.string xn) := hk.cell 0; have k1 : wz.cell? ⟨gk, 1, none⟩ = some (.string xs) := hk.cell 1; have k2 : wz.cell? ⟨gk, 2, none⟩ = some (.int .i64 xu) := hk.cell 2; have ht := HK0.out.on hSw; have k4 : wz.cell? ⟨w.heap.size, 4, none⟩ = some (.slice (some ⟨bb, o, none⟩) m ck) := ht.cell 4; have k5 := HPC.out wz ht.l; clear hk ht; go_simp; try (with_reducible rfl)
            try simp only [Act.put, List.setIfInBounds_toArray, List.set_cons_zero, List.set_cons_succ, List.getElem_toArray, List.getElem_cons_succ, List.getElem_cons_zero]
            refine wpAnyH_ready (rs := [2]) (by kernel_rfl) (by simp) (AllReadyH.cons rfl (fun K hK => ?_) AllReadyH.nil)
            rw [if_pos (by kernel_rfl)]
            go_simp
            refine (HNA.out _).mono ?_
            rintro e u9 ⟨rfl, rfl⟩
            try dsimp only
            refine hK.out _ _ ((Below.refl _ _).drew) (fun hHeld => ?_)
            try simp only [Act.put, List.setIfInBounds_toArray, List.set_cons_zero, List.set_cons_succ, List.getElem_toArray, List.getElem_cons_succ, List.getElem_cons_zero]
            refine take_at (some 71) (i := 3) (v := ?_) rfl rfl (by kernel_rfl) (by kernel_rfl) (by kernel_rfl) (fun _ _ _ h => h) (Or.inl ⟨by kernel_rfl, ?_⟩) hHeld ?_
            rotate_left
            · intro wz hSw; go_simp; try (with_reducible rfl)
            try simp only [Act.put, List.setIfInBounds_toArray, List.set_cons_zero, List.set_cons_succ, List.getElem_toArray, List.getElem_cons_succ, List.getElem_cons_zero]
            refine take_at (some 72) (i := 4) (v := ?_) rfl rfl (by kernel_rfl) (by kernel_rfl) (by kernel_rfl) (fun _ _ _ h => h) (Or.inl ⟨by kernel_rfl, ?_⟩) hHeld ?_
            rotate_left
            · intro wz hSw; go_simp; try (with_reducible rfl)
            try simp only [Act.put, List.setIfInBounds_toArray, List.set_cons_zero, List.set_cons_succ, List.getElem_toArray, List.getElem_cons_succ, List.getElem_cons_zero]
            cases nb with
            | false =>
              refine take_at (some 73) (i := 5) (v := undef) rfl rfl (by kernel_rfl) (by kernel_rfl) (by kernel_rfl) (fun _ _ _ h => h) (Or.inr ⟨by kernel_rfl, rfl⟩) hHeld ?_
              try simp only [Act.put, List.setIfInBounds_toArray, List.set_cons_zero, List.set_cons_succ, List.getElem_toArray, List.getElem_cons_succ, List.getElem_cons_zero]
              refine take_at (some 74) (i := 6) (v := undef) rfl rfl (by kernel_rfl) (by kernel_rfl) (by kernel_rfl) (fun _ _ _ h => h) (Or.inr ⟨by kernel_rfl, rfl⟩) hHeld ?_
              try simp only [Act.put, List.setIfInBounds_toArray, List.set_cons_zero, List.set_cons_succ, List.getElem_toArray, List.getElem_cons_succ, List.getElem_cons_zero]
              refine take_at (some 75) (i := 7) (v := undef) rfl rfl (by kernel_rfl) (by kernel_rfl) (by kernel_rfl) (fun _ _ _ h => h) (Or.inr ⟨by kernel_rfl, rfl⟩) hHeld ?_
              try simp only [Act.put, List.setIfInBounds_toArray, List.set_cons_zero, List.set_cons_succ, List.getElem_toArray, List.getElem_cons_succ, List.getElem_cons_zero]
              refine take_at (some 76) (i := 8) (v := undef) rfl rfl (by kernel_rfl) (by kernel_rfl) (by kernel_rfl) (fun _ _ _ h => h) (Or.inr ⟨by kernel_rfl, rfl⟩) hHeld ?_
              try simp only [Act.put, List.setIfInBounds_toArray, List.set_cons_zero, List.set_cons_succ, List.getElem_toArray, List.getElem_cons_succ, List.getElem_cons_zero]
              refine take_at (some 77) (i := 9) (v := undef) rfl rfl (by kernel_rfl) (by kernel_rfl) (by kernel_rfl) (fun _ _ _ h => h) (Or.inr ⟨by kernel_rfl, rfl⟩) hHeld ?_
              try simp only [Act.put, List.setIfInBounds_toArray, List.set_cons_zero, List.set_cons_succ, List.getElem_toArray, List.getElem_cons_succ, List.getElem_cons_zero]
              refine take_at (some 78) (i := 10) (v := undef) rfl rfl (by kernel_rfl) (by kernel_rfl) (by kernel_rfl) (fun _ _ _ h => h) (Or.inr ⟨by kernel_rfl, rfl⟩) hHeld ?_
              try simp only [Act.put, List.setIfInBounds_toArray, List.set_cons_zero, List.set_cons_succ, List.getElem_toArray, List.getElem_cons_succ, List.getElem_cons_zero]
              refine take_at (some 79) (i := 11) (v := undef) rfl rfl (by kernel_rfl) (by kernel_rfl) (by kernel_rfl) (fun _ _ _ h => h) (Or.inr ⟨by kernel_rfl, rfl⟩) hHeld ?_
              try simp only [Act.put, List.setIfInBounds_toArray, List.set_cons_zero, List.set_cons_succ, List.getElem_toArray, List.getElem_cons_succ, List.getElem_cons_zero]
              refine take_at (some 80) (i := 12) (v := undef) rfl rfl (by kernel_rfl) (by kernel_rfl) (by kernel_rfl) (fun _ _ _ h => h) (Or.inr ⟨by kernel_rfl, rfl⟩) hHeld ?_
              try simp only [Act.put, List.setIfInBounds_toArray, List.set_cons_zero, List.set_cons_succ, List.getElem_toArray, List.getElem_cons_succ, List.getElem_cons_zero]
              refine take_at (some 81) (i := 13) (v := undef) rfl rfl (by kernel_rfl) (by kernel_rfl) (by kernel_rfl) (fun _ _ _ h => h) (Or.inr ⟨by kernel_rfl, rfl⟩) hHeld ?_
              try simp only [Act.put, List.setIfInBounds_toArray, List.set_cons_zero, List.set_cons_succ, List.getElem_toArray, List.getElem_cons_succ, List.getElem_cons_zero]
              refine take_at (some 82) (i := 14) (v := undef) rfl rfl (by kernel_rfl) (by kernel_rfl) (by kernel_rfl) (fun _ _ _ h => h) (Or.inr ⟨by kernel_rfl, rfl⟩) hHeld ?_
              try simp only [Act.put, List.setIfInBounds_toArray, List.set_cons_zero, List.set_cons_succ, List.getElem_toArray, List.getElem_cons_succ, List.getElem_cons_zero]
              refine take_at (some 83) (i := 15) (v := undef) rfl rfl (by kernel_rfl) (by kernel_rfl) (by kernel_rfl) (fun _ _ _ h => h) (Or.inr ⟨by kernel_rfl, rfl⟩) hHeld ?_
              try simp only [Act.put, List.setIfInBounds_toArray, List.set_cons_zero, List.set_cons_succ, List.getElem_toArray, List.getElem_cons_succ, List.getElem_cons_zero]
              refine take_at (some 84) (i := 16) (v := undef) rfl rfl (by kernel_rfl) (by kernel_rfl) (by kernel_rfl) (fun _ _ _ h => h) (Or.inr ⟨by kernel_rfl, rfl⟩) hHeld ?_
              try simp only [Act.put, List.setIfInBounds_toArray, List.set_cons_zero, List.set_cons_succ, List.getElem_toArray, List.getElem_cons_succ, List.getElem_cons_zero]
              refine take_at (some 85) (i := 17) (v := undef) rfl rfl (by kernel_rfl) (by kernel_rfl) (by kernel_rfl) (fun _ _ _ h => h) (Or.inr ⟨by kernel_rfl, rfl⟩) hHeld ?_
              try simp only [Act.put, List.setIfInBounds_toArray, List.set_cons_zero, List.set_cons_succ, List.getElem_toArray, List.getElem_cons_succ, List.getElem_cons_zero]
              refine take_at (some 86) (i := 18) (v := undef) rfl rfl (by kernel_rfl) (by kernel_rfl) (by kernel_rfl) (fun _ _ _ h => h) (Or.inr ⟨by kernel_rfl, rfl⟩) hHeld ?_
              try simp only [Act.put, List.setIfInBounds_toArray, List.set_cons_zero, List.set_cons_succ, List.getElem_toArray, List.getElem_cons_succ, List.getElem_cons_zero]
              refine take_at (some 87) (i := 19) (v := ?_) rfl rfl (by kernel_rfl) (by kernel_rfl) (by kernel_rfl) (fun _ _ _ h => h) (Or.inl ⟨by kernel_rfl, ?_⟩) hHeld ?_
              rotate_left
              · intro wz hSw; go_simp; try (with_reducible rfl)
              try simp only [Act.put, List.setIfInBounds_toArray, List.set_cons_zero, List.set_cons_succ, List.getElem_toArray, List.getElem_cons_succ, List.getElem_cons_zero]
              refine take_at (some 88) (i := 20) (v := ?_) rfl rfl (by kernel_rfl) (by kernel_rfl) (by kernel_rfl) (fun _ _ _ h => h) (Or.inl ⟨by kernel_rfl, ?_⟩) hHeld ?_
              rotate_left
              · intro wz hSw; go_simp; try (with_reducible rfl)
              try simp only [Act.put, List.setIfInBounds_toArray, List.set_cons_zero, List.set_cons_succ, List.getElem_toArray, List.getElem_cons_succ, List.getElem_cons_zero]
              refine take_at (some 89) (i := 21) (v := undef) rfl rfl (by kernel_rfl) (by kernel_rfl) (by kernel_rfl) (fun _ _ _ h => h) (Or.inr ⟨by kernel_rfl, rfl⟩) hHeld ?_
              try simp only [Act.put, List.setIfInBounds_toArray, List.set_cons_zero, List.set_cons_succ, List.getElem_toArray, List.getElem_cons_succ, List.getElem_cons_zero]
              refine take_at (some 90) (i := 22) (v := undef) rfl rfl (by kernel_rfl) (by kernel_rfl) (by kernel_rfl) (fun _ _ _ h => h) (Or.inr ⟨by kernel_rfl, rfl⟩) hHeld ?_
              try simp only [Act.put, List.setIfInBounds_toArray, List.set_cons_zero, List.set_cons_succ, List.getElem_toArray, List.getElem_cons_succ, List.getElem_cons_zero]
              refine take_at (some 91) (i := 23) (v := undef) rfl rfl (by kernel_rfl) (by kernel_rfl) (by kernel_rfl) (fun _ _ _ h => h) (Or.inr ⟨by kernel_rfl, rfl⟩) hHeld ?_
              try simp only [Act.put, List.setIfInBounds_toArray, List.set_cons_zero, List.set_cons_succ, List.getElem_toArray, List.getElem_cons_succ, List.getElem_cons_zero]
              refine take_at (some 92) (i := 24) (v := ?_) rfl rfl (by kernel_rfl) (by kernel_rfl) (by kernel_rfl) (fun _ _ _ h => h) (Or.inl ⟨by kernel_rfl, ?_⟩) hHeld ?_
              rotate_left
              · intro wz hSw; go_simp; try (with_reducible rfl)
              try simp only [Act.put, List.setIfInBounds_toArray, List.set_cons_zero, List.set_cons_succ, List.getElem_toArray, List.getElem_cons_succ, List.getElem_cons_zero]
              refine take_at (some 93) (i := 25) (v := ?_) rfl rfl (by kernel_rfl) (by kernel_rfl) (by kernel_rfl) (fun _ _ _ h => h) (Or.inl ⟨by kernel_rfl, ?_⟩) hHeld ?_
              rotate_left
              · intro wz hSw; go_simp; try (with_reducible rfl)
              try simp only [Act.put, List.setIfInBounds_toArray, List.set_cons_zero, List.set_cons_succ, List.getElem_toArray, List.getElem_cons_succ, List.getElem_cons_zero]
              refine take_at (some 94) (i := 26) (v := undef) rfl rfl (by kernel_rfl) (by kernel_rfl) (by kernel_rfl) (fun _ _ _ h => h) (Or.inr ⟨by kernel_rfl, rfl⟩) hHeld ?_
              try simp only [Act.put, List.setIfInBounds_toArray, List.set_cons_zero, List.set_cons_succ, List.getElem_toArray, List.getElem_cons_succ, List.getElem_cons_zero]
              refine take_at (some 95) (i := 27) (v := undef) rfl rfl (by kernel_rfl) (by kernel_rfl) (by kernel_rfl) (fun _ _ _ h => h) (Or.inr ⟨by kernel_rfl, rfl⟩) hHeld ?_
              try simp only [Act.put, List.setIfInBounds_toArray, List.set_cons_zero, List.set_cons_succ, List.getElem_toArray, List.getElem_cons_succ, List.getElem_cons_zero]
              refine take_at (some 96) (i := 28) (v := undef) rfl rfl (by kernel_rfl) (by kernel_rfl) (by kernel_rfl) (fun _ _ _ h => h) (Or.inr ⟨by kernel_rfl, rfl⟩) hHeld ?_
              try simp only [Act.put, List.setIfInBounds_toArray, List.set_cons_zero, List.set_cons_succ, List.getElem_toArray, List.getElem_cons_succ, List.getElem_cons_zero]
              refine take_at (some 97) (i := 29) (v := undef) rfl rfl (by kernel_rfl) (by kernel_rfl) (by kernel_rfl) (fun _ _ _ h => h) (Or.inr ⟨by kernel_rfl, rfl⟩) hHeld ?_
              try simp only [Act.put, List.setIfInBounds_toArray, List.set_cons_zero, List.set_cons_succ, List.getElem_toArray, List.getElem_cons_succ, List.getElem_cons_zero]
              refine take_at (some 98) (i := 30) (v := ?_) rfl rfl (by kernel_rfl) (by kernel_rfl) (by kernel_rfl) (fun _ _ _ h => h) (Or.inl ⟨by kernel_rfl, ?_⟩) hHeld ?_
              rotate_left
              · intro wz hSw; go_simp; try (with_reducible rfl)
              try simp only [Act.put, List.setIfInBounds_toArray, List.set_cons_zero, List.set_cons_succ, List.getElem_toArray, List.getElem_cons_succ, List.getElem_cons_zero]
              refine take_at (some 99) (i := 31) (v := ?_) rfl rfl (by kernel_rfl) (by kernel_rfl) (by kernel_rfl) (fun _ _ _ h => h) (Or.inl ⟨by kernel_rfl, ?_⟩) hHeld ?_
              rotate_left
              · intro wz hSw; go_simp; try (with_reducible rfl)
              try simp only [Act.put, List.setIfInBounds_toArray, List.set_cons_zero, List.set_cons_succ, List.getElem_toArray, List.getElem_cons_succ, List.getElem_cons_zero]
              refine take_at (some 100) (i := 32) (v := undef) rfl rfl (by kernel_rfl) (by kernel_rfl) (by kernel_rfl) (fun _ _ _ h => h) (Or.inr ⟨by kernel_rfl, rfl⟩) hHeld ?_
              try simp only [Act.put, List.setIfInBounds_toArray, List.set_cons_zero, List.set_cons_succ, List.getElem_toArray, List.getElem_cons_succ, List.getElem_cons_zero]
              refine take_at (some 101) (i := 33) (v := undef) rfl rfl (by kernel_rfl) (by kernel_rfl) (by kernel_rfl) (fun _ _ _ h => h) (Or.inr ⟨by kernel_rfl, rfl⟩) hHeld ?_
              try simp only [Act.put, List.setIfInBounds_toArray, List.set_cons_zero, List.set_cons_succ, List.getElem_toArray, List.getElem_cons_succ, List.getElem_cons_zero]
              refine take_at (some 102) (i := 34) (v := undef) rfl rfl (by kernel_rfl) (by kernel_rfl) (by kernel_rfl) (fun _ _ _ h => h) (Or.inr ⟨by kernel_rfl, rfl⟩) hHeld ?_
              try simp only [Act.put, List.setIfInBounds_toArray, List.set_cons_zero, List.set_cons_succ, List.getElem_toArray, List.getElem_cons_succ, List.getElem_cons_zero]
              refine take_at (some 103) (i := 35) (v := ?_) rfl rfl (by kernel_rfl) (by kernel_rfl) (by kernel_rfl) (fun _ _ _ h => h) (Or.inl ⟨by kernel_rfl, ?_⟩) hHeld ?_
              rotate_left
              · intro wz hSw; go_simp; try (with_reducible rfl)
              try simp only [Act.put, List.setIfInBounds_toArray, List.set_cons_zero, List.set_cons_succ, List.getElem_toArray, List.getElem_cons_succ, List.getElem_cons_zero]
              refine take_at (some 104) (i := 36) (v := ?_) rfl rfl (by kernel_rfl) (by kernel_rfl) (by kernel_rfl) (fun _ _ _ h => h) (Or.inl ⟨by kernel_rfl, ?_⟩) hHeld ?_
              rotate_left
              · intro wz hSw; go_simp; try (with_reducible rfl)
              try simp only [Act.put, List.setIfInBounds_toArray, List.set_cons_zero, List.set_cons_succ, List.getElem_toArray, List.getElem_cons_succ, List.getElem_cons_zero]
              refine take_at (some 105) (i := 37) (v := undef) rfl rfl (by kernel_rfl) (by kernel_rfl) (by kernel_rfl) (fun _ _ _ h => h) (Or.inr ⟨by kernel_rfl, rfl⟩) hHeld ?_
              try simp only [Act.put, List.setIfInBounds_toArray, List.set_cons_zero, List.set_cons_succ, List.getElem_toArray, List.getElem_cons_succ, List.getElem_cons_zero]
              refine take_at (some 106) (i := 38) (v := undef) rfl rfl (by kernel_rfl) (by kernel_rfl) (by kernel_rfl) (fun _ _ _ h => h) (Or.inr ⟨by kernel_rfl, rfl⟩) hHeld ?_
              try simp only [Act.put, List.setIfInBounds_toArray, List.set_cons_zero, List.set_cons_succ, List.getElem_toArray, List.getElem_cons_succ, List.getElem_cons_zero]
              refine take_at (some 107) (i := 39) (v := undef) rfl rfl (by kernel_rfl) (by kernel_rfl) (by kernel_rfl) (fun _ _ _ h => h) (Or.inr ⟨by kernel_rfl, rfl⟩) hHeld ?_
              try simp only [Act.put, List.setIfInBounds_toArray, List.set_cons_zero, List.set_cons_succ, List.getElem_toArray, List.getElem_cons_succ, List.getElem_cons_zero]
              refine take_at (some 108) (i := 40) (v := ?_) rfl rfl (by kernel_rfl) (by kernel_rfl) (by kernel_rfl) (fun _ _ _ h => h) (Or.inl ⟨by kernel_rfl, ?_⟩) hHeld ?_
              rotate_left
              · intro wz hSw; go_simp; try (with_reducible rfl)
              try simp only [Act.put, List.setIfInBounds_toArray, List.set_cons_zero, List.set_cons_succ, List.getElem_toArray, List.getElem_cons_succ, List.getElem_cons_zero]
              refine wpAnyH_done (by kernel_rfl) ?_ _
              refine gen_qT (fun y => Below wn.heap.size wn y) hHeld (fun y hy => ?_)
              clear hHeld
              go_wp2
              go_ret
              exact ⟨by rw [HD.out, HST.out]; rfl, (HK0.out.on hy).l⟩
            | true =>
              by_cases hi0 : i = 0
              case pos =>
                have HZ := Lib.hid (show ltS (if i = 0 then ByteArray.empty else pn) xn = true by rw [if_pos hi0]; exact HLE.out rfl)
                have hj0 : ¬ (i : Int) > 0 := by omega
                have hj1 : ¬ (0 : Int) < (i : Int) := by omega
                have hj7 : ¬ 0 < i := by omega
                refine take_at (some 73) (i := 5) (v := ?_) rfl rfl (by kernel_rfl) (by kernel_rfl) (by kernel_rfl) (fun _ _ _ h => h) (Or.inl ⟨by kernel_rfl, ?_⟩) hHeld ?_
                rotate_left
                · intro wz hSw; go_simp; try (with_reducible rfl)
                try simp only [Act.put, List.setIfInBounds_toArray, List.set_cons_zero, List.set_cons_succ, List.getElem_toArray, List.getElem_cons_succ, List.getElem_cons_zero]
                refine take_at (some 74) (i := 6) (v := ?_) rfl rfl (by kernel_rfl) (by kernel_rfl) (by kernel_rfl) (fun _ _ _ h => h) (Or.inl ⟨by kernel_rfl, ?_⟩) hHeld ?_
                rotate_left
                · intro wz hSw; go_simp; try (with_reducible rfl)
                try simp only [Act.put, List.setIfInBounds_toArray, List.set_cons_zero, List.set_cons_succ, List.getElem_toArray, List.getElem_cons_succ, List.getElem_cons_zero]
                refine take_at (some 75) (i := 7) (v := ?_) rfl rfl (by kernel_rfl) (by kernel_rfl) (by kernel_rfl) (fun _ _ _ h => h) (Or.inl ⟨by kernel_rfl, ?_⟩) hHeld ?_
                rotate_left
                · intro wz hSw; go_simp; try (with_reducible rfl)
                try simp only [Act.put, List.setIfInBounds_toArray, List.set_cons_zero, List.set_cons_succ, List.getElem_toArray, List.getElem_cons_succ, List.getElem_cons_zero]
                refine take_at (some 76) (i := 8) (v := undef) rfl rfl (by kernel_rfl) (by kernel_rfl) (by kernel_rfl) (fun _ _ _ h => h) (Or.inr ⟨by kernel_rfl, rfl⟩) hHeld ?_
                try simp only [Act.put, List.setIfInBounds_toArray, List.set_cons_zero, List.set_cons_succ, List.getElem_toArray, List.getElem_cons_succ, List.getElem_cons_zero]
                refine take_at (some 77) (i := 9) (v := undef) rfl rfl (by kernel_rfl) (by kernel_rfl) (by kernel_rfl) (fun _ _ _ h => h) (Or.inr ⟨by kernel_rfl, rfl⟩) hHeld ?_
                try simp only [Act.put, List.setIfInBounds_toArray, List.set_cons_zero, List.set_cons_succ, List.getElem_toArray, List.getElem_cons_succ, List.getElem_cons_zero]
                refine take_at (some 78) (i := 10) (v := undef) rfl rfl (by kernel_rfl) (by kernel_rfl) (by kernel_rfl) (fun _ _ _ h => h) (Or.inr ⟨by kernel_rfl, rfl⟩) hHeld ?_
                try simp only [Act.put, List.setIfInBounds_toArray, List.set_cons_zero, List.set_cons_succ, List.getElem_toArray, List.getElem_cons_succ, List.getElem_cons_zero]
                refine take_at (some 79) (i := 11) (v := undef) rfl rfl (by kernel_rfl) (by kernel_rfl) (by kernel_rfl) (fun _ _ _ h => h) (Or.inr ⟨by kernel_rfl, rfl⟩) hHeld ?_
                try simp only [Act.put, List.setIfInBounds_toArray, List.set_cons_zero, List.set_cons_succ, List.getElem_toArray, List.getElem_cons_succ, List.getElem_cons_zero]
                refine take_at (some 80) (i := 12) (v := undef) rfl rfl (by kernel_rfl) (by kernel_rfl) (by kernel_rfl) (fun _ _ _ h => h) (Or.inr ⟨by kernel_rfl, rfl⟩) hHeld ?_
                try simp only [Act.put, List.setIfInBounds_toArray, List.set_cons_zero, List.set_cons_succ, List.getElem_toArray, List.getElem_cons_succ, List.getElem_cons_zero]
                refine take_at (some 81) (i := 13) (v := undef) rfl rfl (by kernel_rfl) (by kernel_rfl) (by kernel_rfl) (fun _ _ _ h => h) (Or.inr ⟨by kernel_rfl, rfl⟩) hHeld ?_
                try simp only [Act.put, List.setIfInBounds_toArray, List.set_cons_zero, List.set_cons_succ, List.getElem_toArray, List.getElem_cons_succ, List.getElem_cons_zero]
                refine take_at (some 82) (i := 14) (v := undef) rfl rfl (by kernel_rfl) (by kernel_rfl) (by kernel_rfl) (fun _ _ _ h => h) (Or.inr ⟨by kernel_rfl, rfl⟩) hHeld ?_
                try simp only [Act.put, List.setIfInBounds_toArray, List.set_cons_zero, List.set_cons_succ, List.getElem_toArray, List.getElem_cons_succ, List.getElem_cons_zero]
                refine take_at (some 83) (i := 15) (v := undef) rfl rfl (by kernel_rfl) (by kernel_rfl) (by kernel_rfl) (fun _ _ _ h => h) (Or.inr ⟨by kernel_rfl, rfl⟩) hHeld ?_
                try simp only [Act.put, List.setIfInBounds_toArray, List.set_cons_zero, List.set_cons_succ, List.getElem_toArray, List.getElem_cons_succ, List.getElem_cons_zero]
                refine take_at (some 84) (i := 16) (v := undef) rfl rfl (by kernel_rfl) (by kernel_rfl) (by kernel_rfl) (fun _ _ _ h => h) (Or.inr ⟨by kernel_rfl, rfl⟩) hHeld ?_
                try simp only [Act.put, List.setIfInBounds_toArray, List.set_cons_zero, List.set_cons_succ, List.getElem_toArray, List.getElem_cons_succ, List.getElem_cons_zero]
                refine take_at (some 85) (i := 17) (v := undef) rfl rfl (by kernel_rfl) (by kernel_rfl) (by kernel_rfl) (fun _ _ _ h => h) (Or.inr ⟨by kernel_rfl, rfl⟩) hHeld ?_
                try simp only [Act.put, List.setIfInBounds_toArray, List.set_cons_zero, List.set_cons_succ, List.getElem_toArray, List.getElem_cons_succ, List.getElem_cons_zero]
                refine take_at (some 86) (i := 18) (v := ?_) rfl rfl (by kernel_rfl) (by kernel_rfl) (by kernel_rfl) (fun _ _ _ h => h) (Or.inl ⟨by kernel_rfl, ?_⟩) hHeld ?_
                rotate_left
                · intro wz hSw; go_simp; try (with_reducible rfl)
                try simp only [Act.put, List.setIfInBounds_toArray, List.set_cons_zero, List.set_cons_succ, List.getElem_toArray, List.getElem_cons_succ, List.getElem_cons_zero]
                refine take_at (some 87) (i := 19) (v := ?_) rfl rfl (by kernel_rfl) (by kernel_rfl) (by kernel_rfl) (fun _ _ _ h => h) (Or.inl ⟨by kernel_rfl, ?_⟩) hHeld ?_
                rotate_left
                · intro wz hSw; go_simp; try (with_reducible rfl)
                try simp only [Act.put, List.setIfInBounds_toArray, List.set_cons_zero, List.set_cons_succ, List.getElem_toArray, List.getElem_cons_succ, List.getElem_cons_zero]
                refine take_at (some 88) (i := 20) (v := ?_) rfl rfl (by kernel_rfl) (by kernel_rfl) (by kernel_rfl) (fun _ _ _ h => h) (Or.inl ⟨by kernel_rfl, ?_⟩) hHeld ?_
                rotate_left
                · intro wz hSw; go_simp; try (with_reducible rfl)
                try simp only [Act.put, List.setIfInBounds_toArray, List.set_cons_zero, List.set_cons_succ, List.getElem_toArray, List.getElem_cons_succ, List.getElem_cons_zero]
                by_cases hs0 : xs.size = 0
                case pos =>
                  have hq0 : (xs.toList == []) = true := by rw [HSQ.out]; exact decide_eq_true hs0
                  have HTF := Lib.hid (HTN.out (by omega))
                  refine take_at (some 89) (i := 21) (v := ?_) rfl rfl (by kernel_rfl) (by kernel_rfl) (by kernel_rfl) (fun _ _ _ h => h) (Or.inl ⟨by kernel_rfl, ?_⟩) hHeld ?_
                  rotate_left
                  · intro wz hSw; have hk := HK1.out.below hSw HK1.out.lt; have k0 : wz.cell? ⟨gk, 0, none⟩ = some (.string xn) := hk.cell 0; have k1 : wz.cell? ⟨gk, 1, none⟩ = some (.string xs) := hk.cell 1; have k2 : wz.cell? ⟨gk, 2, none⟩ = some (.int .i64 xu) := hk.cell 2; have ht := HK0.out.on hSw; have k4 : wz.cell? ⟨w.heap.size, 4, none⟩ = some (.slice (some ⟨bb, o, none⟩) m ck) := ht.cell 4; have k5 := HPC.out wz ht.l; clear hk ht; go_simp; try (with_reducible rfl)
                  try simp only [Act.put, List.setIfInBounds_toArray, List.set_cons_zero, List.set_cons_succ, List.getElem_toArray, List.getElem_cons_succ, List.getElem_cons_zero]
                  refine take_at (some 90) (i := 22) (v := ?_) rfl rfl (by kernel_rfl) (by kernel_rfl) (by kernel_rfl) (fun _ _ _ h => h) (Or.inl ⟨by kernel_rfl, ?_⟩) hHeld ?_
                  rotate_left
                  · intro wz hSw; have hk := HK1.out.below hSw HK1.out.lt; have k0 : wz.cell? ⟨gk, 0, none⟩ = some (.string xn) := hk.cell 0; have k1 : wz.cell? ⟨gk, 1, none⟩ = some (.string xs) := hk.cell 1; have k2 : wz.cell? ⟨gk, 2, none⟩ = some (.int .i64 xu) := hk.cell 2; have ht := HK0.out.on hSw; have k4 : wz.cell? ⟨w.heap.size, 4, none⟩ = some (.slice (some ⟨bb, o, none⟩) m ck) := ht.cell 4; have k5 := HPC.out wz ht.l; clear hk ht; go_simp; try (with_reducible rfl)
                  try simp only [Act.put, List.setIfInBounds_toArray, List.set_cons_zero, List.set_cons_succ, List.getElem_toArray, List.getElem_cons_succ, List.getElem_cons_zero]
                  refine take_at (some 91) (i := 23) (v := ?_) rfl rfl (by kernel_rfl) (by kernel_rfl) (by kernel_rfl) (fun _ _ _ h => h) (Or.inl ⟨by kernel_rfl, ?_⟩) hHeld ?_
                  rotate_left
                  · intro wz hSw; have hk := HK1.out.below hSw HK1.out.lt; have k0 : wz.cell? ⟨gk, 0, none⟩ = some (.string xn) := hk.cell 0; have k1 : wz.cell? ⟨gk, 1, none⟩ = some (.string xs) := hk.cell 1; have k2 : wz.cell? ⟨gk, 2, none⟩ = some (.int .i64 xu) := hk.cell 2; have ht := HK0.out.on hSw; have k4 : wz.cell? ⟨w.heap.size, 4, none⟩ = some (.slice (some ⟨bb, o, none⟩) m ck) := ht.cell 4; have k5 := HPC.out wz ht.l; clear hk ht; go_simp; try (with_reducible rfl)
                  try simp only [Act.put, List.setIfInBounds_toArray, List.set_cons_zero, List.set_cons_succ, List.getElem_toArray, List.getElem_cons_succ, List.getElem_cons_zero]
                  refine take_at (some 92) (i := 24) (v := ?_) rfl rfl (by kernel_rfl) (by kernel_rfl) (by kernel_rfl) (fun _ _ _ h => h) (Or.inl ⟨by kernel_rfl, ?_⟩) hHeld ?_
                  rotate_left
                  · intro wz hSw; go_simp; try (with_reducible rfl)
                  try simp only [Act.put, List.setIfInBounds_toArray, List.set_cons_zero, List.set_cons_succ, List.getElem_toArray, List.getElem_cons_succ, List.getElem_cons_zero]
                  refine take_at (some 93) (i := 25) (v := ?_) rfl rfl (by kernel_rfl) (by kernel_rfl) (by kernel_rfl) (fun _ _ _ h => h) (Or.inl ⟨by kernel_rfl, ?_⟩) hHeld ?_
                  rotate_left
                  · intro wz hSw; go_simp; try (with_reducible rfl)
                  try simp only [Act.put, List.setIfInBounds_toArray, List.set_cons_zero, List.set_cons_succ, List.getElem_toArray, List.getElem_cons_succ, List.getElem_cons_zero]
                  refine take_at (some 94) (i := 26) (v := undef) rfl rfl (by kernel_rfl) (by kernel_rfl) (by kernel_rfl) (fun _ _ _ h => h) (Or.inr ⟨by kernel_rfl, rfl⟩) hHeld ?_
                  try simp only [Act.put, List.setIfInBounds_toArray, List.set_cons_zero, List.set_cons_succ, List.getElem_toArray, List.getElem_cons_succ, List.getElem_cons_zero]
                  refine take_at (some 95) (i := 27) (v := undef) rfl rfl (by kernel_rfl) (by kernel_rfl) (by kernel_rfl) (fun _ _ _ h => h) (Or.inr ⟨by kernel_rfl, rfl⟩) hHeld ?_
                  try simp only [Act.put, List.setIfInBounds_toArray, List.set_cons_zero, List.set_cons_succ, List.getElem_toArray, List.getElem_cons_succ, List.getElem_cons_zero]
                  refine take_at (some 96) (i := 28) (v := undef) rfl rfl (by kernel_rfl) (by kernel_rfl) (by kernel_rfl) (fun _ _ _ h => h) (Or.inr ⟨by kernel_rfl, rfl⟩) hHeld ?_
                  try simp only [Act.put, List.setIfInBounds_toArray, List.set_cons_zero, List.set_cons_succ, List.getElem_toArray, List.getElem_cons_succ, List.getElem_cons_zero]
                  refine take_at (some 97) (i := 29) (v := undef) rfl rfl (by kernel_rfl) (by kernel_rfl) (by kernel_rfl) (fun _ _ _ h => h) (Or.inr ⟨by kernel_rfl, rfl⟩) hHeld ?_
                  try simp only [Act.put, List.setIfInBounds_toArray, List.set_cons_zero, List.set_cons_succ, List.getElem_toArray, List.getElem_cons_succ, List.getElem_cons_zero]
                  refine take_at (some 98) (i := 30) (v := ?_) rfl rfl (by kernel_rfl) (by kernel_rfl) (by kernel_rfl) (fun _ _ _ h => h) (Or.inl ⟨by kernel_rfl, ?_⟩) hHeld ?_
                  rotate_left
                  · intro wz hSw; go_simp; try (with_reducible rfl)
                  try simp only [Act.put, List.setIfInBounds_toArray, List.set_cons_zero, List.set_cons_succ, List.getElem_toArray, List.getElem_cons_succ, List.getElem_cons_zero]
                  refine take_at (some 99) (i := 31) (v := ?_) rfl rfl (by kernel_rfl) (by kernel_rfl) (by kernel_rfl) (fun _ _ _ h => h) (Or.inl ⟨by kernel_rfl, ?_⟩) hHeld ?_
                  rotate_left
                  · intro wz hSw; go_simp; try (with_reducible rfl)
                  try simp only [Act.put, List.setIfInBounds_toArray, List.set_cons_zero, List.set_cons_succ, List.getElem_toArray, List.getElem_cons_succ, List.getElem_cons_zero]
                  refine take_at (some 100) (i := 32) (v := undef) rfl rfl (by kernel_rfl) (by kernel_rfl) (by kernel_rfl) (fun _ _ _ h => h) (Or.inr ⟨by kernel_rfl, rfl⟩) hHeld ?_
                  try simp only [Act.put, List.setIfInBounds_toArray, List.set_cons_zero, List.set_cons_succ, List.getElem_toArray, List.getElem_cons_succ, List.getElem_cons_zero]
                  refine take_at (some 101) (i := 33) (v := undef) rfl rfl (by kernel_rfl) (by kernel_rfl) (by kernel_rfl) (fun _ _ _ h => h) (Or.inr ⟨by kernel_rfl, rfl⟩) hHeld ?_
                  try simp only [Act.put, List.setIfInBounds_toArray, List.set_cons_zero, List.set_cons_succ, List.getElem_toArray, List.getElem_cons_succ, List.getElem_cons_zero]
                  refine take_at (some 102) (i := 34) (v := undef) rfl rfl (by kernel_rfl) (by kernel_rfl) (by kernel_rfl) (fun _ _ _ h => h) (Or.inr ⟨by kernel_rfl, rfl⟩) hHeld ?_
                  try simp only [Act.put, List.setIfInBounds_toArray, List.set_cons_zero, List.set_cons_succ, List.getElem_toArray, List.getElem_cons_succ, List.getElem_cons_zero]
                  refine take_at (some 103) (i := 35) (v := ?_) rfl rfl (by kernel_rfl) (by kernel_rfl) (by kernel_rfl) (fun _ _ _ h => h) (Or.inl ⟨by kernel_rfl, ?_⟩) hHeld ?_
                  rotate_left
                  · intro wz hSw; go_simp; try (with_reducible rfl)
                  try simp only [Act.put, List.setIfInBounds_toArray, List.set_cons_zero, List.set_cons_succ, List.getElem_toArray, List.getElem_cons_succ, List.getElem_cons_zero]
                  refine take_at (some 104) (i := 36) (v := ?_) rfl rfl (by kernel_rfl) (by kernel_rfl) (by kernel_rfl) (fun _ _ _ h => h) (Or.inl ⟨by kernel_rfl, ?_⟩) hHeld ?_
                  rotate_left
                  · intro wz hSw; go_simp; try (with_reducible rfl)
                  try simp only [Act.put, List.setIfInBounds_toArray, List.set_cons_zero, List.set_cons_succ, List.getElem_toArray, List.getElem_cons_succ, List.getElem_cons_zero]
                  refine take_at (some 105) (i := 37) (v := undef) rfl rfl (by kernel_rfl) (by kernel_rfl) (by kernel_rfl) (fun _ _ _ h => h) (Or.inr ⟨by kernel_rfl, rfl⟩) hHeld ?_
                  try simp only [Act.put, List.setIfInBounds_toArray, List.set_cons_zero, List.set_cons_succ, List.getElem_toArray, List.getElem_cons_succ, List.getElem_cons_zero]
                  refine take_at (some 106) (i := 38) (v := undef) rfl rfl (by kernel_rfl) (by kernel_rfl) (by kernel_rfl) (fun _ _ _ h => h) (Or.inr ⟨by kernel_rfl, rfl⟩) hHeld ?_
                  try simp only [Act.put, List.setIfInBounds_toArray, List.set_cons_zero, List.set_cons_succ, List.getElem_toArray, List.getElem_cons_succ, List.getElem_cons_zero]
                  refine take_at (some 107) (i := 39) (v := undef) rfl rfl (by kernel_rfl) (by kernel_rfl) (by kernel_rfl) (fun _ _ _ h => h) (Or.inr ⟨by kernel_rfl, rfl⟩) hHeld ?_
                  try simp only [Act.put, List.setIfInBounds_toArray, List.set_cons_zero, List.set_cons_succ, List.getElem_toArray, List.getElem_cons_succ, List.getElem_cons_zero]
                  refine take_at (some 108) (i := 40) (v := ?_) rfl rfl (by kernel_rfl) (by kernel_rfl) (by kernel_rfl) (fun _ _ _ h => h) (Or.inl ⟨by kernel_rfl, ?_⟩) hHeld ?_
                  rotate_left
                  · intro wz hSw; go_simp; try (with_reducible rfl)
                  try simp only [Act.put, List.setIfInBounds_toArray, List.set_cons_zero, List.set_cons_succ, List.getElem_toArray, List.getElem_cons_succ, List.getElem_cons_zero]
                  refine wpAnyH_done (by kernel_rfl) ?_ _
                  refine gen_qT (fun y => Below wn.heap.size wn y) hHeld (fun y hy => ?_)
                  clear hHeld
                  go_wp2
                  go_ret
                  exact ⟨by rw [HD.out, HST.out]; rw [HTF.out]; simp, (HK0.out.on hy).l⟩
                have hq0 : (xs.toList == []) = false := by rw [HSQ.out]; exact decide_eq_false hs0
                refine take_at (some 89) (i := 21) (v := ?_) rfl rfl (by kernel_rfl) (by kernel_rfl) (by kernel_rfl) (fun _ _ _ h => h) (Or.inl ⟨by kernel_rfl, ?_⟩) hHeld ?_
                rotate_left
                · intro wz hSw; have hk := HK1.out.below hSw HK1.out.lt; have k0 : wz.cell? ⟨gk, 0, none⟩ = some (.string xn) := hk.cell 0; have k1 : wz.cell? ⟨gk, 1, none⟩ = some (.string xs) := hk.cell 1; have k2 : wz.cell? ⟨gk, 2, none⟩ = some (.int .i64 xu) := hk.cell 2; have ht := HK0.out.on hSw; have k4 : wz.cell? ⟨w.heap.size, 4, none⟩ = some (.slice (some ⟨bb, o, none⟩) m ck) := ht.cell 4; have k5 := HPC.out wz ht.l; clear hk ht; go_simp; try (with_reducible rfl)
                try simp only [Act.put, List.setIfInBounds_toArray, List.set_cons_zero, List.set_cons_succ, List.getElem_toArray, List.getElem_cons_succ, List.getElem_cons_zero]
                refine take_at (some 90) (i := 22) (v := ?_) rfl rfl (by kernel_rfl) (by kernel_rfl) (by kernel_rfl) (fun _ _ _ h => h) (Or.inl ⟨by kernel_rfl, ?_⟩) hHeld ?_
                rotate_left
                · intro wz hSw; have hk := HK1.out.below hSw HK1.out.lt; have k0 : wz.cell? ⟨gk, 0, none⟩ = some (.string xn) := hk.cell 0; have k1 : wz.cell? ⟨gk, 1, none⟩ = some (.string xs) := hk.cell 1; have k2 : wz.cell? ⟨gk, 2, none⟩ = some (.int .i64 xu) := hk.cell 2; have ht := HK0.out.on hSw; have k4 : wz.cell? ⟨w.heap.size, 4, none⟩ = some (.slice (some ⟨bb, o, none⟩) m ck) := ht.cell 4; have k5 := HPC.out wz ht.l; clear hk ht; go_simp; try (with_reducible rfl)
                try simp only [Act.put, List.setIfInBounds_toArray, List.set_cons_zero, List.set_cons_succ, List.getElem_toArray, List.getElem_cons_succ, List.getElem_cons_zero]
                refine take_at (some 91) (i := 23) (v := ?_) rfl rfl (by kernel_rfl) (by kernel_rfl) (by kernel_rfl) (fun _ _ _ h => h) (Or.inl ⟨by kernel_rfl, ?_⟩) hHeld ?_
                rotate_left
                · intro wz hSw; have hk := HK1.out.below hSw HK1.out.lt; have k0 : wz.cell? ⟨gk, 0, none⟩ = some (.string xn) := hk.cell 0; have k1 : wz.cell? ⟨gk, 1, none⟩ = some (.string xs) := hk.cell 1; have k2 : wz.cell? ⟨gk, 2, none⟩ = some (.int .i64 xu) := hk.cell 2; have ht := HK0.out.on hSw; have k4 : wz.cell? ⟨w.heap.size, 4, none⟩ = some (.slice (some ⟨bb, o, none⟩) m ck) := ht.cell 4; have k5 := HPC.out wz ht.l; clear hk ht; go_simp; try (with_reducible rfl)
                try simp only [Act.put, List.setIfInBounds_toArray, List.set_cons_zero, List.set_cons_succ, List.getElem_toArray, List.getElem_cons_succ, List.getElem_cons_zero]
                refine take_at (some 92) (i := 24) (v := ?_) rfl rfl (by kernel_rfl) (by kernel_rfl) (by kernel_rfl) (fun _ _ _ h => h) (Or.inl ⟨by kernel_rfl, ?_⟩) hHeld ?_
                rotate_left
                · intro wz hSw; go_simp; try (with_reducible rfl)
                try simp only [Act.put, List.setIfInBounds_toArray, List.set_cons_zero, List.set_cons_succ, List.getElem_toArray, List.getElem_cons_succ, List.getElem_cons_zero]
                refine take_at (some 93) (i := 25) (v := ?_) rfl rfl (by kernel_rfl) (by kernel_rfl) (by kernel_rfl) (fun _ _ _ h => h) (Or.inl ⟨by kernel_rfl, ?_⟩) hHeld ?_
                rotate_left
                · intro wz hSw; go_simp; try (with_reducible rfl)
                try simp only [Act.put, List.setIfInBounds_toArray, List.set_cons_zero, List.set_cons_succ, List.getElem_toArray, List.getElem_cons_succ, List.getElem_cons_zero]
                by_cases hs1 : xs.size ≤ 32
                case neg =>
                  have hs2 : (xs.size : Int) > 32 := by omega
                  have hs3 : (32 : Int) < (xs.size : Int) := by omega
                  have HTF := Lib.hid (HTN.out (by omega))
                  refine take_at (some 94) (i := 26) (v := ?_) rfl rfl (by kernel_rfl) (by kernel_rfl) (by kernel_rfl) (fun _ _ _ h => h) (Or.inl ⟨by kernel_rfl, ?_⟩) hHeld ?_
                  rotate_left
                  · intro wz hSw; have hk := HK1.out.below hSw HK1.out.lt; have k0 : wz.cell? ⟨gk, 0, none⟩ = some (.string xn) := hk.cell 0; have k1 : wz.cell? ⟨gk, 1, none⟩ = some (.string xs) := hk.cell 1; have k2 : wz.cell? ⟨gk, 2, none⟩ = some (.int .i64 xu) := hk.cell 2; have ht := HK0.out.on hSw; have k4 : wz.cell? ⟨w.heap.size, 4, none⟩ = some (.slice (some ⟨bb, o, none⟩) m ck) := ht.cell 4; have k5 := HPC.out wz ht.l; clear hk ht; go_simp; try (with_reducible rfl)
                  try simp only [Act.put, List.setIfInBounds_toArray, List.set_cons_zero, List.set_cons_succ, List.getElem_toArray, List.getElem_cons_succ, List.getElem_cons_zero]
                  refine take_at (some 95) (i := 27) (v := ?_) rfl rfl (by kernel_rfl) (by kernel_rfl) (by kernel_rfl) (fun _ _ _ h => h) (Or.inl ⟨by kernel_rfl, ?_⟩) hHeld ?_
                  rotate_left
                  · intro wz hSw; have hk := HK1.out.below hSw HK1.out.lt; have k0 : wz.cell? ⟨gk, 0, none⟩ = some (.string xn) := hk.cell 0; have k1 : wz.cell? ⟨gk, 1, none⟩ = some (.string xs) := hk.cell 1; have k2 : wz.cell? ⟨gk, 2, none⟩ = some (.int .i64 xu) := hk.cell 2; have ht := HK0.out.on hSw; have k4 : wz.cell? ⟨w.heap.size, 4, none⟩ = some (.slice (some ⟨bb, o, none⟩) m ck) := ht.cell 4; have k5 := HPC.out wz ht.l; clear hk ht; go_simp; try (with_reducible rfl)
                  try simp only [Act.put, List.setIfInBounds_toArray, List.set_cons_zero, List.set_cons_succ, List.getElem_toArray, List.getElem_cons_succ, List.getElem_cons_zero]
                  refine take_at (some 96) (i := 28) (v := ?_) rfl rfl (by kernel_rfl) (by kernel_rfl) (by kernel_rfl) (fun _ _ _ h => h) (Or.inl ⟨by kernel_rfl, ?_⟩) hHeld ?_
                  rotate_left
                  · intro wz hSw; have hk := HK1.out.below hSw HK1.out.lt; have k0 : wz.cell? ⟨gk, 0, none⟩ = some (.string xn) := hk.cell 0; have k1 : wz.cell? ⟨gk, 1, none⟩ = some (.string xs) := hk.cell 1; have k2 : wz.cell? ⟨gk, 2, none⟩ = some (.int .i64 xu) := hk.cell 2; have ht := HK0.out.on hSw; have k4 : wz.cell? ⟨w.heap.size, 4, none⟩ = some (.slice (some ⟨bb, o, none⟩) m ck) := ht.cell 4; have k5 := HPC.out wz ht.l; clear hk ht; go_simp; try (with_reducible rfl)
                  try simp only [Act.put, List.setIfInBounds_toArray, List.set_cons_zero, List.set_cons_succ, List.getElem_toArray, List.getElem_cons_succ, List.getElem_cons_zero]
                  refine take_at (some 97) (i := 29) (v := ?_) rfl rfl (by kernel_rfl) (by kernel_rfl) (by kernel_rfl) (fun _ _ _ h => h) (Or.inl ⟨by kernel_rfl, ?_⟩) hHeld ?_
                  rotate_left
                  · intro wz hSw; have hk := HK1.out.below hSw HK1.out.lt; have k0 : wz.cell? ⟨gk, 0, none⟩ = some (.string xn) := hk.cell 0; have k1 : wz.cell? ⟨gk, 1, none⟩ = some (.string xs) := hk.cell 1; have k2 : wz.cell? ⟨gk, 2, none⟩ = some (.int .i64 xu) := hk.cell 2; have ht := HK0.out.on hSw; have k4 : wz.cell? ⟨w.heap.size, 4, none⟩ = some (.slice (some ⟨bb, o, none⟩) m ck) := ht.cell 4; have k5 := HPC.out wz ht.l; clear hk ht; go_simp; try (with_reducible rfl)
                  try simp only [Act.put, List.setIfInBounds_toArray, List.set_cons_zero, List.set_cons_succ, List.getElem_toArray, List.getElem_cons_succ, List.getElem_cons_zero]
                  refine take_at (some 98) (i := 30) (v := ?_) rfl rfl (by kernel_rfl) (by kernel_rfl) (by kernel_rfl) (fun _ _ _ h => h) (Or.inl ⟨by kernel_rfl, ?_⟩) hHeld ?_
                  rotate_left
                  · intro wz hSw; go_simp; try (with_reducible rfl)
                  try simp only [Act.put, List.setIfInBounds_toArray, List.set_cons_zero, List.set_cons_succ, List.getElem_toArray, List.getElem_cons_succ, List.getElem_cons_zero]
                  refine take_at (some 99) (i := 31) (v := ?_) rfl rfl (by kernel_rfl) (by kernel_rfl) (by kernel_rfl) (fun _ _ _ h => h) (Or.inl ⟨by kernel_rfl, ?_⟩) hHeld ?_
                  rotate_left
                  · intro wz hSw; go_simp; try (with_reducible rfl)
                  try simp only [Act.put, List.setIfInBounds_toArray, List.set_cons_zero, List.set_cons_succ, List.getElem_toArray, List.getElem_cons_succ, List.getElem_cons_zero]
                  refine take_at (some 100) (i := 32) (v := undef) rfl rfl (by kernel_rfl) (by kernel_rfl) (by kernel_rfl) (fun _ _ _ h => h) (Or.inr ⟨by kernel_rfl, rfl⟩) hHeld ?_
                  try simp only [Act.put, List.setIfInBounds_toArray, List.set_cons_zero, List.set_cons_succ, List.getElem_toArray, List.getElem_cons_succ, List.getElem_cons_zero]
                  refine take_at (some 101) (i := 33) (v := undef) rfl rfl (by kernel_rfl) (by kernel_rfl) (by kernel_rfl) (fun _ _ _ h => h) (Or.inr ⟨by kernel_rfl, rfl⟩) hHeld ?_
                  try simp only [Act.put, List.setIfInBounds_toArray, List.set_cons_zero, List.set_cons_succ, List.getElem_toArray, List.getElem_cons_succ, List.getElem_cons_zero]
                  refine take_at (some 102) (i := 34) (v := undef) rfl rfl (by kernel_rfl) (by kernel_rfl) (by kernel_rfl) (fun _ _ _ h => h) (Or.inr ⟨by kernel_rfl, rfl⟩) hHeld ?_
                  try simp only [Act.put, List.setIfInBounds_toArray, List.set_cons_zero, List.set_cons_succ, List.getElem_toArray, List.getElem_cons_succ, List.getElem_cons_zero]
                  refine take_at (some 103) (i := 35) (v := ?_) rfl rfl (by kernel_rfl) (by kernel_rfl) (by kernel_rfl) (fun _ _ _ h => h) (Or.inl ⟨by kernel_rfl, ?_⟩) hHeld ?_
                  rotate_left
                  · intro wz hSw; go_simp; try (with_reducible rfl)
                  try simp only [Act.put, List.setIfInBounds_toArray, List.set_cons_zero, List.set_cons_succ, List.getElem_toArray, List.getElem_cons_succ, List.getElem_cons_zero]
                  refine take_at (some 104) (i := 36) (v := ?_) rfl rfl (by kernel_rfl) (by kernel_rfl) (by kernel_rfl) (fun _ _ _ h => h) (Or.inl ⟨by kernel_rfl, ?_⟩) hHeld ?_
                  rotate_left
                  · intro wz hSw; go_simp; try (with_reducible rfl)
                  try simp only [Act.put, List.setIfInBounds_toArray, List.set_cons_zero, List.set_cons_succ, List.getElem_toArray, List.getElem_cons_succ, List.getElem_cons_zero]
                  refine take_at (some 105) (i := 37) (v := undef) rfl rfl (by kernel_rfl) (by kernel_rfl) (by kernel_rfl) (fun _ _ _ h => h) (Or.inr ⟨by kernel_rfl, rfl⟩) hHeld ?_
                  try simp only [Act.put, List.setIfInBounds_toArray, List.set_cons_zero, List.set_cons_succ, List.getElem_toArray, List.getElem_cons_succ, List.getElem_cons_zero]
                  refine take_at (some 106) (i := 38) (v := undef) rfl rfl (by kernel_rfl) (by kernel_rfl) (by kernel_rfl) (fun _ _ _ h => h) (Or.inr ⟨by kernel_rfl, rfl⟩) hHeld ?_
                  try simp only [Act.put, List.setIfInBounds_toArray, List.set_cons_zero, List.set_cons_succ, List.getElem_toArray, List.getElem_cons_succ, List.getElem_cons_zero]
                  refine take_at (some 107) (i := 39) (v := undef) rfl rfl (by kernel_rfl) (by kernel_rfl) (by kernel_rfl) (fun _ _ _ h => h) (Or.inr ⟨by kernel_rfl, rfl⟩) hHeld ?_
                  try simp only [Act.put, List.setIfInBounds_toArray, List.set_cons_zero, List.set_cons_succ, List.getElem_toArray, List.getElem_cons_succ, List.getElem_cons_zero]
                  refine take_at (some 108) (i := 40) (v := ?_) rfl rfl (by kernel_rfl) (by kernel_rfl) (by kernel_rfl) (fun _ _ _ h => h) (Or.inl ⟨by kernel_rfl, ?_⟩) hHeld ?_
                  rotate_left
                  · intro wz hSw; go_simp; try (with_reducible rfl)
                  try simp only [Act.put, List.setIfInBounds_toArray, List.set_cons_zero, List.set_cons_succ, List.getElem_toArray, List.getElem_cons_succ, List.getElem_cons_zero]
                  refine wpAnyH_done (by kernel_rfl) ?_ _
                  refine gen_qT (fun y => Below wn.heap.size wn y) hHeld (fun y hy => ?_)
                  clear hHeld
                  go_wp2
                  go_ret
                  exact ⟨by rw [HD.out, HST.out]; rw [HTF.out]; simp, (HK0.out.on hy).l⟩
                have hs2 : ¬ (xs.size : Int) > 32 := by omega
                have hs3 : ¬ (32 : Int) < (xs.size : Int) := by omega
                refine take_at (some 94) (i := 26) (v := ?_) rfl rfl (by kernel_rfl) (by kernel_rfl) (by kernel_rfl) (fun _ _ _ h => h) (Or.inl ⟨by kernel_rfl, ?_⟩) hHeld ?_
                rotate_left
                · intro wz hSw; have hk := HK1.out.below hSw HK1.out.lt; have k0 : wz.cell? ⟨gk, 0, none⟩ = some (.string xn) := hk.cell 0; have k1 : wz.cell? ⟨gk, 1, none⟩ = some (.string xs) := hk.cell 1; have k2 : wz.cell? ⟨gk, 2, none⟩ = some (.int .i64 xu) := hk.cell 2; have ht := HK0.out.on hSw; have k4 : wz.cell? ⟨w.heap.size, 4, none⟩ = some (.slice (some ⟨bb, o, none⟩) m ck) := ht.cell 4; have k5 := HPC.out wz ht.l; clear hk ht; go_simp; try (with_reducible rfl)
                try simp only [Act.put, List.setIfInBounds_toArray, List.set_cons_zero, List.set_cons_succ, List.getElem_toArray, List.getElem_cons_succ, List.getElem_cons_zero]
                refine take_at (some 95) (i := 27) (v := ?_) rfl rfl (by kernel_rfl) (by kernel_rfl) (by kernel_rfl) (fun _ _ _ h => h) (Or.inl ⟨by kernel_rfl, ?_⟩) hHeld ?_
                rotate_left
                · intro wz hSw; have hk := HK1.out.below hSw HK1.out.lt; have k0 : wz.cell? ⟨gk, 0, none⟩ = some (.string xn) := hk.cell 0; have k1 : wz.cell? ⟨gk, 1, none⟩ = some (.string xs) := hk.cell 1; have k2 : wz.cell? ⟨gk, 2, none⟩ = some (.int .i64 xu) := hk.cell 2; have ht := HK0.out.on hSw; have k4 : wz.cell? ⟨w.heap.size, 4, none⟩ = some (.slice (some ⟨bb, o, none⟩) m ck) := ht.cell 4; have k5 := HPC.out wz ht.l; clear hk ht; go_simp; try (with_reducible rfl)
                try simp only [Act.put, List.setIfInBounds_toArray, List.set_cons_zero, List.set_cons_succ, List.getElem_toArray, List.getElem_cons_succ, List.getElem_cons_zero]
                refine take_at (some 96) (i := 28) (v := ?_) rfl rfl (by kernel_rfl) (by kernel_rfl) (by kernel_rfl) (fun _ _ _ h => h) (Or.inl ⟨by kernel_rfl, ?_⟩) hHeld ?_
                rotate_left
                · intro wz hSw; have hk := HK1.out.below hSw HK1.out.lt; have k0 : wz.cell? ⟨gk, 0, none⟩ = some (.string xn) := hk.cell 0; have k1 : wz.cell? ⟨gk, 1, none⟩ = some (.string xs) := hk.cell 1; have k2 : wz.cell? ⟨gk, 2, none⟩ = some (.int .i64 xu) := hk.cell 2; have ht := HK0.out.on hSw; have k4 : wz.cell? ⟨w.heap.size, 4, none⟩ = some (.slice (some ⟨bb, o, none⟩) m ck) := ht.cell 4; have k5 := HPC.out wz ht.l; clear hk ht; go_simp; try (with_reducible rfl)
                try simp only [Act.put, List.setIfInBounds_toArray, List.set_cons_zero, List.set_cons_succ, List.getElem_toArray, List.getElem_cons_succ, List.getElem_cons_zero]
                refine take_at (some 97) (i := 29) (v := ?_) rfl rfl (by kernel_rfl) (by kernel_rfl) (by kernel_rfl) (fun _ _ _ h => h) (Or.inl ⟨by kernel_rfl, ?_⟩) hHeld ?_
                rotate_left
                · intro wz hSw; have hk := HK1.out.below hSw HK1.out.lt; have k0 : wz.cell? ⟨gk, 0, none⟩ = some (.string xn) := hk.cell 0; have k1 : wz.cell? ⟨gk, 1, none⟩ = some (.string xs) := hk.cell 1; have k2 : wz.cell? ⟨gk, 2, none⟩ = some (.int .i64 xu) := hk.cell 2; have ht := HK0.out.on hSw; have k4 : wz.cell? ⟨w.heap.size, 4, none⟩ = some (.slice (some ⟨bb, o, none⟩) m ck) := ht.cell 4; have k5 := HPC.out wz ht.l; clear hk ht; go_simp; try (with_reducible rfl)
                try simp only [Act.put, List.setIfInBounds_toArray, List.set_cons_zero, List.set_cons_succ, List.getElem_toArray, List.getElem_cons_succ, List.getElem_cons_zero]
                refine take_at (some 98) (i := 30) (v := ?_) rfl rfl (by kernel_rfl) (by kernel_rfl) (by kernel_rfl) (fun _ _ _ h => h) (Or.inl ⟨by kernel_rfl, ?_⟩) hHeld ?_
                rotate_left
                · intro wz hSw; go_simp; try (with_reducible rfl)
                try simp only [Act.put, List.setIfInBounds_toArray, List.set_cons_zero, List.set_cons_succ, List.getElem_toArray, List.getElem_cons_succ, List.getElem_cons_zero]
                refine take_at (some 99) (i := 31) (v := ?_) rfl rfl (by kernel_rfl) (by kernel_rfl) (by kernel_rfl) (fun _ _ _ h => h) (Or.inl ⟨by kernel_rfl, ?_⟩) hHeld ?_
                rotate_left
                · intro wz hSw; go_simp; try (with_reducible rfl)
                try simp only [Act.put, List.setIfInBounds_toArray, List.set_cons_zero, List.set_cons_succ, List.getElem_toArray, List.getElem_cons_succ, List.getElem_cons_zero]
                by_cases hu1 : (0 : Int) ≤ xu
                case neg =>
                  have hu2 : xu < 0 := by omega
                  have HTF := Lib.hid (HTN.out (by omega))
                  refine take_at (some 100) (i := 32) (v := ?_) rfl rfl (by kernel_rfl) (by kernel_rfl) (by kernel_rfl) (fun _ _ _ h => h) (Or.inl ⟨by kernel_rfl, ?_⟩) hHeld ?_
                  rotate_left
                  · intro wz hSw; have hk := HK1.out.below hSw HK1.out.lt; have k0 : wz.cell? ⟨gk, 0, none⟩ = some (.string xn) := hk.cell 0; have k1 : wz.cell? ⟨gk, 1, none⟩ = some (.string xs) := hk.cell 1; have k2 : wz.cell? ⟨gk, 2, none⟩ = some (.int .i64 xu) := hk.cell 2; have ht := HK0.out.on hSw; have k4 : wz.cell? ⟨w.heap.size, 4, none⟩ = some (.slice (some ⟨bb, o, none⟩) m ck) := ht.cell 4; have k5 := HPC.out wz ht.l; clear hk ht; go_simp; try (with_reducible rfl)
                  try simp only [Act.put, List.setIfInBounds_toArray, List.set_cons_zero, List.set_cons_succ, List.getElem_toArray, List.getElem_cons_succ, List.getElem_cons_zero]
                  refine take_at (some 101) (i := 33) (v := ?_) rfl rfl (by kernel_rfl) (by kernel_rfl) (by kernel_rfl) (fun _ _ _ h => h) (Or.inl ⟨by kernel_rfl, ?_⟩) hHeld ?_
                  rotate_left
                  · intro wz hSw; have hk := HK1.out.below hSw HK1.out.lt; have k0 : wz.cell? ⟨gk, 0, none⟩ = some (.string xn) := hk.cell 0; have k1 : wz.cell? ⟨gk, 1, none⟩ = some (.string xs) := hk.cell 1; have k2 : wz.cell? ⟨gk, 2, none⟩ = some (.int .i64 xu) := hk.cell 2; have ht := HK0.out.on hSw; have k4 : wz.cell? ⟨w.heap.size, 4, none⟩ = some (.slice (some ⟨bb, o, none⟩) m ck) := ht.cell 4; have k5 := HPC.out wz ht.l; clear hk ht; go_simp; try (with_reducible rfl)
                  try simp only [Act.put, List.setIfInBounds_toArray, List.set_cons_zero, List.set_cons_succ, List.getElem_toArray, List.getElem_cons_succ, List.getElem_cons_zero]
                  refine take_at (some 102) (i := 34) (v := ?_) rfl rfl (by kernel_rfl) (by kernel_rfl) (by kernel_rfl) (fun _ _ _ h => h) (Or.inl ⟨by kernel_rfl, ?_⟩) hHeld ?_
                  rotate_left
                  · intro wz hSw; have hk := HK1.out.below hSw HK1.out.lt; have k0 : wz.cell? ⟨gk, 0, none⟩ = some (.string xn) := hk.cell 0; have k1 : wz.cell? ⟨gk, 1, none⟩ = some (.string xs) := hk.cell 1; have k2 : wz.cell? ⟨gk, 2, none⟩ = some (.int .i64 xu) := hk.cell 2; have ht := HK0.out.on hSw; have k4 : wz.cell? ⟨w.heap.size, 4, none⟩ = some (.slice (some ⟨bb, o, none⟩) m ck) := ht.cell 4; have k5 := HPC.out wz ht.l; clear hk ht; go_simp; try (with_reducible rfl)
                  try simp only [Act.put, List.setIfInBounds_toArray, List.set_cons_zero, List.set_cons_succ, List.getElem_toArray, List.getElem_cons_succ, List.getElem_cons_zero]
                  refine take_at (some 103) (i := 35) (v := ?_) rfl rfl (by kernel_rfl) (by kernel_rfl) (by kernel_rfl) (fun _ _ _ h => h) (Or.inl ⟨by kernel_rfl, ?_⟩) hHeld ?_
                  rotate_left
                  · intro wz hSw; go_simp; try (with_reducible rfl)
                  try simp only [Act.put, List.setIfInBounds_toArray, List.set_cons_zero, List.set_cons_succ, List.getElem_toArray, List.getElem_cons_succ, List.getElem_cons_zero]
                  refine take_at (some 104) (i := 36) (v := ?_) rfl rfl (by kernel_rfl) (by kernel_rfl) (by kernel_rfl) (fun _ _ _ h => h) (Or.inl ⟨by kernel_rfl, ?_⟩) hHeld ?_
                  rotate_left
                  · intro wz hSw; go_simp; try (with_reducible rfl)
                  try simp only [Act.put, List.setIfInBounds_toArray, List.set_cons_zero, List.set_cons_succ, List.getElem_toArray, List.getElem_cons_succ, List.getElem_cons_zero]
                  refine take_at (some 105) (i := 37) (v := undef) rfl rfl (by kernel_rfl) (by kernel_rfl) (by kernel_rfl) (fun _ _ _ h => h) (Or.inr ⟨by kernel_rfl, rfl⟩) hHeld ?_
                  try simp only [Act.put, List.setIfInBounds_toArray, List.set_cons_zero, List.set_cons_succ, List.getElem_toArray, List.getElem_cons_succ, List.getElem_cons_zero]
                  refine take_at (some 106) (i := 38) (v := undef) rfl rfl (by kernel_rfl) (by kernel_rfl) (by kernel_rfl) (fun _ _ _ h => h) (Or.inr ⟨by kernel_rfl, rfl⟩) hHeld ?_
                  try simp only [Act.put, List.setIfInBounds_toArray, List.set_cons_zero, List.set_cons_succ, List.getElem_toArray, List.getElem_cons_succ, List.getElem_cons_zero]
                  refine take_at (some 107) (i := 39) (v := undef) rfl rfl (by kernel_rfl) (by kernel_rfl) (by kernel_rfl) (fun _ _ _ h => h) (Or.inr ⟨by kernel_rfl, rfl⟩) hHeld ?_
                  try simp only [Act.put, List.setIfInBounds_toArray, List.set_cons_zero, List.set_cons_succ, List.getElem_toArray, List.getElem_cons_succ, List.getElem_cons_zero]
                  refine take_at (some 108) (i := 40) (v := ?_) rfl rfl (by kernel_rfl) (by kernel_rfl) (by kernel_rfl) (fun _ _ _ h => h) (Or.inl ⟨by kernel_rfl, ?_⟩) hHeld ?_
                  rotate_left
                  · intro wz hSw; go_simp; try (with_reducible rfl)
                  try simp only [Act.put, List.setIfInBounds_toArray, List.set_cons_zero, List.set_cons_succ, List.getElem_toArray, List.getElem_cons_succ, List.getElem_cons_zero]
                  refine wpAnyH_done (by kernel_rfl) ?_ _
                  refine gen_qT (fun y => Below wn.heap.size wn y) hHeld (fun y hy => ?_)
                  clear hHeld
                  go_wp2
                  go_ret
                  exact ⟨by rw [HD.out, HST.out]; rw [HTF.out]; simp, (HK0.out.on hy).l⟩
                have hu2 : ¬ xu < 0 := by omega
                refine take_at (some 100) (i := 32) (v := ?_) rfl rfl (by kernel_rfl) (by kernel_rfl) (by kernel_rfl) (fun _ _ _ h => h) (Or.inl ⟨by kernel_rfl, ?_⟩) hHeld ?_
                rotate_left
                · intro wz hSw; have hk := HK1.out.below hSw HK1.out.lt; have k0 : wz.cell? ⟨gk, 0, none⟩ = some (.string xn) := hk.cell 0; have k1 : wz.cell? ⟨gk, 1, none⟩ = some (.string xs) := hk.cell 1; have k2 : wz.cell? ⟨gk, 2, none⟩ = some (.int .i64 xu) := hk.cell 2; have ht := HK0.out.on hSw; have k4 : wz.cell? ⟨w.heap.size, 4, none⟩ = some (.slice (some ⟨bb, o, none⟩) m ck) := ht.cell 4; have k5 := HPC.out wz ht.l; clear hk ht; go_simp; try (with_reducible rfl)
                try simp only [Act.put, List.setIfInBounds_toArray, List.set_cons_zero, List.set_cons_succ, List.getElem_toArray, List.getElem_cons_succ, List.getElem_cons_zero]
                refine take_at (some 101) (i := 33) (v := ?_) rfl rfl (by kernel_rfl) (by kernel_rfl) (by kernel_rfl) (fun _ _ _ h => h) (Or.inl ⟨by kernel_rfl, ?_⟩) hHeld ?_
                rotate_left
                · intro wz hSw; have hk := HK1.out.below hSw HK1.out.lt; have k0 : wz.cell? ⟨gk, 0, none⟩ = some (.string xn) := hk.cell 0; have k1 : wz.cell? ⟨gk, 1, none⟩ = some (.string xs) := hk.cell 1; have k2 : wz.cell? ⟨gk, 2, none⟩ = some (.int .i64 xu) := hk.cell 2; have ht := HK0.out.on hSw; have k4 : wz.cell? ⟨w.heap.size, 4, none⟩ = some (.slice (some ⟨bb, o, none⟩) m ck) := ht.cell 4; have k5 := HPC.out wz ht.l; clear hk ht; go_simp; try (with_reducible rfl)
                try simp only [Act.put, List.setIfInBounds_toArray, List.set_cons_zero, List.set_cons_succ, List.getElem_toArray, List.getElem_cons_succ, List.getElem_cons_zero]
                refine take_at (some 102) (i := 34) (v := ?_) rfl rfl (by kernel_rfl) (by kernel_rfl) (by kernel_rfl) (fun _ _ _ h => h) (Or.inl ⟨by kernel_rfl, ?_⟩) hHeld ?_
                rotate_left
                · intro wz hSw; have hk := HK1.out.below hSw HK1.out.lt; have k0 : wz.cell? ⟨gk, 0, none⟩ = some (.string xn) := hk.cell 0; have k1 : wz.cell? ⟨gk, 1, none⟩ = some (.string xs) := hk.cell 1; have k2 : wz.cell? ⟨gk, 2, none⟩ = some (.int .i64 xu) := hk.cell 2; have ht := HK0.out.on hSw; have k4 : wz.cell? ⟨w.heap.size, 4, none⟩ = some (.slice (some ⟨bb, o, none⟩) m ck) := ht.cell 4; have k5 := HPC.out wz ht.l; clear hk ht; go_simp; try (with_reducible rfl)
                try simp only [Act.put, List.setIfInBounds_toArray, List.set_cons_zero, List.set_cons_succ, List.getElem_toArray, List.getElem_cons_succ, List.getElem_cons_zero]
                refine take_at (some 103) (i := 35) (v := ?_) rfl rfl (by kernel_rfl) (by kernel_rfl) (by kernel_rfl) (fun _ _ _ h => h) (Or.inl ⟨by kernel_rfl, ?_⟩) hHeld ?_
                rotate_left
                · intro wz hSw; go_simp; try (with_reducible rfl)
                try simp only [Act.put, List.setIfInBounds_toArray, List.set_cons_zero, List.set_cons_succ, List.getElem_toArray, List.getElem_cons_succ, List.getElem_cons_zero]
                refine take_at (some 104) (i := 36) (v := ?_) rfl rfl (by kernel_rfl) (by kernel_rfl) (by kernel_rfl) (fun _ _ _ h => h) (Or.inl ⟨by kernel_rfl, ?_⟩) hHeld ?_
                rotate_left
                · intro wz hSw; go_simp; try (with_reducible rfl)
                try simp only [Act.put, List.setIfInBounds_toArray, List.set_cons_zero, List.set_cons_succ, List.getElem_toArray, List.getElem_cons_succ, List.getElem_cons_zero]
                by_cases hu3 : xu ≤ 1099511627776
                case neg =>
                  have hu4 : xu > 1099511627776 := by omega
                  have hu5 : (1099511627776 : Int) < xu := by omega
                  have HTF := Lib.hid (HTN.out (by omega))
                  refine take_at (some 105) (i := 37) (v := ?_) rfl rfl (by kernel_rfl) (by kernel_rfl) (by kernel_rfl) (fun _ _ _ h => h) (Or.inl ⟨by kernel_rfl, ?_⟩) hHeld ?_
                  rotate_left
                  · intro wz hSw; have hk := HK1.out.below hSw HK1.out.lt; have k0 : wz.cell? ⟨gk, 0, none⟩ = some (.string xn) := hk.cell 0; have k1 : wz.cell? ⟨gk, 1, none⟩ = some (.string xs) := hk.cell 1; have k2 : wz.cell? ⟨gk, 2, none⟩ = some (.int .i64 xu) := hk.cell 2; have ht := HK0.out.on hSw; have k4 : wz.cell? ⟨w.heap.size, 4, none⟩ = some (.slice (some ⟨bb, o, none⟩) m ck) := ht.cell 4; have k5 := HPC.out wz ht.l; clear hk ht; go_simp; try (with_reducible rfl)
                  try simp only [Act.put, List.setIfInBounds_toArray, List.set_cons_zero, List.set_cons_succ, List.getElem_toArray, List.getElem_cons_succ, List.getElem_cons_zero]
                  refine take_at (some 106) (i := 38) (v := ?_) rfl rfl (by kernel_rfl) (by kernel_rfl) (by kernel_rfl) (fun _ _ _ h => h) (Or.inl ⟨by kernel_rfl, ?_⟩) hHeld ?_
                  rotate_left
                  · intro wz hSw; have hk := HK1.out.below hSw HK1.out.lt; have k0 : wz.cell? ⟨gk, 0, none⟩ = some (.string xn) := hk.cell 0; have k1 : wz.cell? ⟨gk, 1, none⟩ = some (.string xs) := hk.cell 1; have k2 : wz.cell? ⟨gk, 2, none⟩ = some (.int .i64 xu) := hk.cell 2; have ht := HK0.out.on hSw; have k4 : wz.cell? ⟨w.heap.size, 4, none⟩ = some (.slice (some ⟨bb, o, none⟩) m ck) := ht.cell 4; have k5 := HPC.out wz ht.l; clear hk ht; go_simp; try (with_reducible rfl)
                  try simp only [Act.put, List.setIfInBounds_toArray, List.set_cons_zero, List.set_cons_succ, List.getElem_toArray, List.getElem_cons_succ, List.getElem_cons_zero]
                  refine take_at (some 107) (i := 39) (v := ?_) rfl rfl (by kernel_rfl) (by kernel_rfl) (by kernel_rfl) (fun _ _ _ h => h) (Or.inl ⟨by kernel_rfl, ?_⟩) hHeld ?_
                  rotate_left
                  · intro wz hSw; have hk := HK1.out.below hSw HK1.out.lt; have k0 : wz.cell? ⟨gk, 0, none⟩ = some (.string xn) := hk.cell 0; have k1 : wz.cell? ⟨gk, 1, none⟩ = some (.string xs) := hk.cell 1; have k2 : wz.cell? ⟨gk, 2, none⟩ = some (.int .i64 xu) := hk.cell 2; have ht := HK0.out.on hSw; have k4 : wz.cell? ⟨w.heap.size, 4, none⟩ = some (.slice (some ⟨bb, o, none⟩) m ck) := ht.cell 4; have k5 := HPC.out wz ht.l; clear hk ht; go_simp; try (with_reducible rfl)
                  try simp only [Act.put, List.setIfInBounds_toArray, List.set_cons_zero, List.set_cons_succ, List.getElem_toArray, List.getElem_cons_succ, List.getElem_cons_zero]
                  refine take_at (some 108) (i := 40) (v := ?_) rfl rfl (by kernel_rfl) (by kernel_rfl) (by kernel_rfl) (fun _ _ _ h => h) (Or.inl ⟨by kernel_rfl, ?_⟩) hHeld ?_
                  rotate_left
                  · intro wz hSw; go_simp; try (with_reducible rfl)
                  try simp only [Act.put, List.setIfInBounds_toArray, List.set_cons_zero, List.set_cons_succ, List.getElem_toArray, List.getElem_cons_succ, List.getElem_cons_zero]
                  refine wpAnyH_done (by kernel_rfl) ?_ _
                  refine gen_qT (fun y => Below wn.heap.size wn y) hHeld (fun y hy => ?_)
                  clear hHeld
                  go_wp2
                  go_ret
                  exact ⟨by rw [HD.out, HST.out]; rw [HTF.out]; simp, (HK0.out.on hy).l⟩
                have hu4 : ¬ xu > 1099511627776 := by omega
                have hu5 : ¬ (1099511627776 : Int) < xu := by omega
                have HTF := Lib.hid (HTY.out ⟨by omega, hs1, hu1, hu3⟩)
                refine take_at (some 105) (i := 37) (v := ?_) rfl rfl (by kernel_rfl) (by kernel_rfl) (by kernel_rfl) (fun _ _ _ h => h) (Or.inl ⟨by kernel_rfl, ?_⟩) hHeld ?_
                rotate_left
                · intro wz hSw; have hk := HK1.out.below hSw HK1.out.lt; have k0 : wz.cell? ⟨gk, 0, none⟩ = some (.string xn) := hk.cell 0; have k1 : wz.cell? ⟨gk, 1, none⟩ = some (.string xs) := hk.cell 1; have k2 : wz.cell? ⟨gk, 2, none⟩ = some (.int .i64 xu) := hk.cell 2; have ht := HK0.out.on hSw; have k4 : wz.cell? ⟨w.heap.size, 4, none⟩ = some (.slice (some ⟨bb, o, none⟩) m ck) := ht.cell 4; have k5 := HPC.out wz ht.l; clear hk ht; go_simp; try (with_reducible rfl)
                try simp only [Act.put, List.setIfInBounds_toArray, List.set_cons_zero, List.set_cons_succ, List.getElem_toArray, List.getElem_cons_succ, List.getElem_cons_zero]
                refine take_at (some 106) (i := 38) (v := ?_) rfl rfl (by kernel_rfl) (by kernel_rfl) (by kernel_rfl) (fun _ _ _ h => h) (Or.inl ⟨by kernel_rfl, ?_⟩) hHeld ?_
                rotate_left
                · intro wz hSw; have hk := HK1.out.below hSw HK1.out.lt; have k0 : wz.cell? ⟨gk, 0, none⟩ = some (.string xn) := hk.cell 0; have k1 : wz.cell? ⟨gk, 1, none⟩ = some (.string xs) := hk.cell 1; have k2 : wz.cell? ⟨gk, 2, none⟩ = some (.int .i64 xu) := hk.cell 2; have ht := HK0.out.on hSw; have k4 : wz.cell? ⟨w.heap.size, 4, none⟩ = some (.slice (some ⟨bb, o, none⟩) m ck) := ht.cell 4; have k5 := HPC.out wz ht.l; clear hk ht; go_simp; try (with_reducible rfl)
                try simp only [Act.put, List.setIfInBounds_toArray, List.set_cons_zero, List.set_cons_succ, List.getElem_toArray, List.getElem_cons_succ, List.getElem_cons_zero]
                refine take_at (some 107) (i := 39) (v := ?_) rfl rfl (by kernel_rfl) (by kernel_rfl) (by kernel_rfl) (fun _ _ _ h => h) (Or.inl ⟨by kernel_rfl, ?_⟩) hHeld ?_
                rotate_left
                · intro wz hSw; have hk := HK1.out.below hSw HK1.out.lt; have k0 : wz.cell? ⟨gk, 0, none⟩ = some (.string xn) := hk.cell 0; have k1 : wz.cell? ⟨gk, 1, none⟩ = some (.string xs) := hk.cell 1; have k2 : wz.cell? ⟨gk, 2, none⟩ = some (.int .i64 xu) := hk.cell 2; have ht := HK0.out.on hSw; have k4 : wz.cell? ⟨w.heap.size, 4, none⟩ = some (.slice (some ⟨bb, o, none⟩) m ck) := ht.cell 4; have k5 := HPC.out wz ht.l; clear hk ht; go_simp; try (with_reducible rfl)
                try simp only [Act.put, List.setIfInBounds_toArray, List.set_cons_zero, List.set_cons_succ, List.getElem_toArray, List.getElem_cons_succ, List.getElem_cons_zero]
                refine take_at (some 108) (i := 40) (v := ?_) rfl rfl (by kernel_rfl) (by kernel_rfl) (by kernel_rfl) (fun _ _ _ h => h) (Or.inl ⟨by kernel_rfl, ?_⟩) hHeld ?_
                rotate_left
                · intro wz hSw; go_simp; try (with_reducible rfl)
                try simp only [Act.put, List.setIfInBounds_toArray, List.set_cons_zero, List.set_cons_succ, List.getElem_toArray, List.getElem_cons_succ, List.getElem_cons_zero]
                refine wpAnyH_done (by kernel_rfl) ?_ _
                refine gen_qT (fun y => Below wn.heap.size wn y) hHeld (fun y hy => ?_)
                clear hHeld
                have HY := Lib.hid (HK0.out.on hy)
                go_wp2
                go_roundw
                case rel => exact ⟨i + 1, by omega, by go_num, Lib.hid (by rw [HNX.out, HD.out, HST.out]; rw [HTF.out, HZ.out]; rfl), HY⟩
                case measure => simp [intOf]; omega
              have hj0 : (i : Int) > 0 := by omega
              have hj1 : (0 : Int) < (i : Int) := by omega
              have hj7 : 0 < i := by omega
              have hj2 : (0 : Int) ≤ (i : Int) - 1 := by omega
              have hj5 : (1 : Int) ≤ (i : Int) := by omega
              have hj3 : (i : Int) - 1 < (m : Int) := by omega
              have hj4 : ((i : Int) - 1).toNat = i - 1 := by omega
              have hwr : IntKind.i64.wrap ((i : Int) - 1) = (i : Int) - 1 := by rw [IntKind.wrap_i64]; omega
              refine take_at (some 73) (i := 5) (v := ?_) rfl rfl (by kernel_rfl) (by kernel_rfl) (by kernel_rfl) (fun _ _ _ h => h) (Or.inl ⟨by kernel_rfl, ?_⟩) hHeld ?_
              rotate_left
              · intro wz hSw; go_simp; try (with_reducible rfl)
              try simp only [Act.put, List.setIfInBounds_toArray, List.set_cons_zero, List.set_cons_succ, List.getElem_toArray, List.getElem_cons_succ, List.getElem_cons_zero]
              refine take_at (some 74) (i := 6) (v := ?_) rfl rfl (by kernel_rfl) (by kernel_rfl) (by kernel_rfl) (fun _ _ _ h => h) (Or.inl ⟨by kernel_rfl, ?_⟩) hHeld ?_
              rotate_left
              · intro wz hSw; go_simp; try (with_reducible rfl)
              try simp only [Act.put, List.setIfInBounds_toArray, List.set_cons_zero, List.set_cons_succ, List.getElem_toArray, List.getElem_cons_succ, List.getElem_cons_zero]
              refine take_at (some 75) (i := 7) (v := ?_) rfl rfl (by kernel_rfl) (by kernel_rfl) (by kernel_rfl) (fun _ _ _ h => h) (Or.inl ⟨by kernel_rfl, ?_⟩) hHeld ?_
              rotate_left
              · intro wz hSw; go_simp; try (with_reducible rfl)
              try simp only [Act.put, List.setIfInBounds_toArray, List.set_cons_zero, List.set_cons_succ, List.getElem_toArray, List.getElem_cons_succ, List.getElem_cons_zero]
              cases hlt : Op.bytesLess pn.toList xn.toList with
              | false =>
                have HZ := Lib.hid (show ltS (if i = 0 then ByteArray.empty else pn) xn = false by rw [if_neg hi0]; exact hlt)
                refine take_at (some 76) (i := 8) (v := ?_) rfl rfl (by kernel_rfl) (by kernel_rfl) (by kernel_rfl) (fun _ _ _ h => h) (Or.inl ⟨by kernel_rfl, ?_⟩) hHeld ?_
                rotate_left
                · intro wz hSw; have hk := HK1.out.below hSw HK1.out.lt; have k0 : wz.cell? ⟨gk, 0, none⟩ = some (.string xn) := hk.cell 0; have k1 : wz.cell? ⟨gk, 1, none⟩ = some (.string xs) := hk.cell 1; have k2 : wz.cell? ⟨gk, 2, none⟩ = some (.int .i64 xu) := hk.cell 2; have ht := HK0.out.on hSw; have k4 : wz.cell? ⟨w.heap.size, 4, none⟩ = some (.slice (some ⟨bb, o, none⟩) m ck) := ht.cell 4; have k5 := HPC.out wz ht.l; clear hk ht; go_simp; try (with_reducible rfl)
                try simp only [Act.put, List.setIfInBounds_toArray, List.set_cons_zero, List.set_cons_succ, List.getElem_toArray, List.getElem_cons_succ, List.getElem_cons_zero]
                refine take_at (some 77) (i := 9) (v := ?_) rfl rfl (by kernel_rfl) (by kernel_rfl) (by kernel_rfl) (fun _ _ _ h => h) (Or.inl ⟨by kernel_rfl, ?_⟩) hHeld ?_
                rotate_left
                · intro wz hSw; have hk := HK1.out.below hSw HK1.out.lt; have k0 : wz.cell? ⟨gk, 0, none⟩ = some (.string xn) := hk.cell 0; have k1 : wz.cell? ⟨gk, 1, none⟩ = some (.string xs) := hk.cell 1; have k2 : wz.cell? ⟨gk, 2, none⟩ = some (.int .i64 xu) := hk.cell 2; have ht := HK0.out.on hSw; have k4 : wz.cell? ⟨w.heap.size, 4, none⟩ = some (.slice (some ⟨bb, o, none⟩) m ck) := ht.cell 4; have k5 := HPC.out wz ht.l; clear hk ht; go_simp; try (with_reducible rfl)
                try simp only [Act.put, List.setIfInBounds_toArray, List.set_cons_zero, List.set_cons_succ, List.getElem_toArray, List.getElem_cons_succ, List.getElem_cons_zero]
                refine take_at (some 78) (i := 10) (v := ?_) rfl rfl (by kernel_rfl) (by kernel_rfl) (by kernel_rfl) (fun _ _ _ h => h) (Or.inl ⟨by kernel_rfl, ?_⟩) hHeld ?_
                rotate_left
                · intro wz hSw; go_simp; try (with_reducible rfl)
                try simp only [Act.put, List.setIfInBounds_toArray, List.set_cons_zero, List.set_cons_succ, List.getElem_toArray, List.getElem_cons_succ, List.getElem_cons_zero]
                refine take_at (some 79) (i := 11) (v := ?_) rfl rfl (by kernel_rfl) (by kernel_rfl) (by kernel_rfl) (fun _ _ _ h => h) (Or.inl ⟨by kernel_rfl, ?_⟩) hHeld ?_
                rotate_left
                · intro wz hSw; have hk := HK1.out.below hSw HK1.out.lt; have k0 : wz.cell? ⟨gk, 0, none⟩ = some (.string xn) := hk.cell 0; have k1 : wz.cell? ⟨gk, 1, none⟩ = some (.string xs) := hk.cell 1; have k2 : wz.cell? ⟨gk, 2, none⟩ = some (.int .i64 xu) := hk.cell 2; have ht := HK0.out.on hSw; have k4 : wz.cell? ⟨w.heap.size, 4, none⟩ = some (.slice (some ⟨bb, o, none⟩) m ck) := ht.cell 4; have k5 := HPC.out wz ht.l; clear hk ht; go_simp; try (with_reducible rfl)
                try simp only [Act.put, List.setIfInBounds_toArray, List.set_cons_zero, List.set_cons_succ, List.getElem_toArray, List.getElem_cons_succ, List.getElem_cons_zero]
                refine take_at (some 80) (i := 12) (v := ?_) rfl rfl (by kernel_rfl) (by kernel_rfl) (by kernel_rfl) (fun _ _ _ h => h) (Or.inl ⟨by kernel_rfl, ?_⟩) hHeld ?_
                rotate_left
                · intro wz hSw; have hk := HK1.out.below hSw HK1.out.lt; have k0 : wz.cell? ⟨gk, 0, none⟩ = some (.string xn) := hk.cell 0; have k1 : wz.cell? ⟨gk, 1, none⟩ = some (.string xs) := hk.cell 1; have k2 : wz.cell? ⟨gk, 2, none⟩ = some (.int .i64 xu) := hk.cell 2; have ht := HK0.out.on hSw; have k4 : wz.cell? ⟨w.heap.size, 4, none⟩ = some (.slice (some ⟨bb, o, none⟩) m ck) := ht.cell 4; have k5 := HPC.out wz ht.l; clear hk ht; go_simp; try (with_reducible rfl)
                try simp only [Act.put, List.setIfInBounds_toArray, List.set_cons_zero, List.set_cons_succ, List.getElem_toArray, List.getElem_cons_succ, List.getElem_cons_zero]
                refine take_at (some 81) (i := 13) (v := ?_) rfl rfl (by kernel_rfl) (by kernel_rfl) (by kernel_rfl) (fun _ _ _ h => h) (Or.inl ⟨by kernel_rfl, ?_⟩) hHeld ?_
                rotate_left
                · intro wz hSw; have hk := HK1.out.below hSw HK1.out.lt; have k0 : wz.cell? ⟨gk, 0, none⟩ = some (.string xn) := hk.cell 0; have k1 : wz.cell? ⟨gk, 1, none⟩ = some (.string xs) := hk.cell 1; have k2 : wz.cell? ⟨gk, 2, none⟩ = some (.int .i64 xu) := hk.cell 2; have ht := HK0.out.on hSw; have k4 : wz.cell? ⟨w.heap.size, 4, none⟩ = some (.slice (some ⟨bb, o, none⟩) m ck) := ht.cell 4; have k5 := HPC.out wz ht.l; clear hk ht; go_simp; try (with_reducible rfl)
                try simp only [Act.put, List.setIfInBounds_toArray, List.set_cons_zero, List.set_cons_succ, List.getElem_toArray, List.getElem_cons_succ, List.getElem_cons_zero]
                refine take_at (some 82) (i := 14) (v := ?_) rfl rfl (by kernel_rfl) (by kernel_rfl) (by kernel_rfl) (fun _ _ _ h => h) (Or.inl ⟨by kernel_rfl, ?_⟩) hHeld ?_
                rotate_left
                · intro wz hSw; have hk := HK1.out.below hSw HK1.out.lt; have k0 : wz.cell? ⟨gk, 0, none⟩ = some (.string xn) := hk.cell 0; have k1 : wz.cell? ⟨gk, 1, none⟩ = some (.string xs) := hk.cell 1; have k2 : wz.cell? ⟨gk, 2, none⟩ = some (.int .i64 xu) := hk.cell 2; have ht := HK0.out.on hSw; have k4 : wz.cell? ⟨w.heap.size, 4, none⟩ = some (.slice (some ⟨bb, o, none⟩) m ck) := ht.cell 4; have k5 := HPC.out wz ht.l; clear hk ht; go_simp; try (with_reducible rfl)
                try simp only [Act.put, List.setIfInBounds_toArray, List.set_cons_zero, List.set_cons_succ, List.getElem_toArray, List.getElem_cons_succ, List.getElem_cons_zero]
                refine take_at (some 83) (i := 15) (v := ?_) rfl rfl (by kernel_rfl) (by kernel_rfl) (by kernel_rfl) (fun _ _ _ h => h) (Or.inl ⟨by kernel_rfl, ?_⟩) hHeld ?_
                rotate_left
                · intro wz hSw; have hk := HK1.out.below hSw HK1.out.lt; have k0 : wz.cell? ⟨gk, 0, none⟩ = some (.string xn) := hk.cell 0; have k1 : wz.cell? ⟨gk, 1, none⟩ = some (.string xs) := hk.cell 1; have k2 : wz.cell? ⟨gk, 2, none⟩ = some (.int .i64 xu) := hk.cell 2; have ht := HK0.out.on hSw; have k4 : wz.cell? ⟨w.heap.size, 4, none⟩ = some (.slice (some ⟨bb, o, none⟩) m ck) := ht.cell 4; have k5 := HPC.out wz ht.l; clear hk ht; go_simp; try (with_reducible rfl)
                try simp only [Act.put, List.setIfInBounds_toArray, List.set_cons_zero, List.set_cons_succ, List.getElem_toArray, List.getElem_cons_succ, List.getElem_cons_zero]
                refine take_at (some 84) (i := 16) (v := ?_) rfl rfl (by kernel_rfl) (by kernel_rfl) (by kernel_rfl) (fun _ _ _ h => h) (Or.inl ⟨by kernel_rfl, ?_⟩) hHeld ?_
                rotate_left
                · intro wz hSw; have hk := HK1.out.below hSw HK1.out.lt; have k0 : wz.cell? ⟨gk, 0, none⟩ = some (.string xn) := hk.cell 0; have k1 : wz.cell? ⟨gk, 1, none⟩ = some (.string xs) := hk.cell 1; have k2 : wz.cell? ⟨gk, 2, none⟩ = some (.int .i64 xu) := hk.cell 2; have ht := HK0.out.on hSw; have k4 : wz.cell? ⟨w.heap.size, 4, none⟩ = some (.slice (some ⟨bb, o, none⟩) m ck) := ht.cell 4; have k5 := HPC.out wz ht.l; clear hk ht; go_simp; try (with_reducible rfl)
                try simp only [Act.put, List.setIfInBounds_toArray, List.set_cons_zero, List.set_cons_succ, List.getElem_toArray, List.getElem_cons_succ, List.getElem_cons_zero]
                refine take_at (some 85) (i := 17) (v := ?_) rfl rfl (by kernel_rfl) (by kernel_rfl) (by kernel_rfl) (fun _ _ _ h => h) (Or.inl ⟨by kernel_rfl, ?_⟩) hHeld ?_
                rotate_left
                · intro wz hSw; have hk := HK1.out.below hSw HK1.out.lt; have k0 : wz.cell? ⟨gk, 0, none⟩ = some (.string xn) := hk.cell 0; have k1 : wz.cell? ⟨gk, 1, none⟩ = some (.string xs) := hk.cell 1; have k2 : wz.cell? ⟨gk, 2, none⟩ = some (.int .i64 xu) := hk.cell 2; have ht := HK0.out.on hSw; have k4 : wz.cell? ⟨w.heap.size, 4, none⟩ = some (.slice (some ⟨bb, o, none⟩) m ck) := ht.cell 4; have k5 := HPC.out wz ht.l; clear hk ht; go_simp; try (with_reducible rfl)
                try simp only [Act.put, List.setIfInBounds_toArray, List.set_cons_zero, List.set_cons_succ, List.getElem_toArray, List.getElem_cons_succ, List.getElem_cons_zero]
                refine take_at (some 86) (i := 18) (v := ?_) rfl rfl (by kernel_rfl) (by kernel_rfl) (by kernel_rfl) (fun _ _ _ h => h) (Or.inl ⟨by kernel_rfl, ?_⟩) hHeld ?_
                rotate_left
                · intro wz hSw; go_simp; try (with_reducible rfl)
                try simp only [Act.put, List.setIfInBounds_toArray, List.set_cons_zero, List.set_cons_succ, List.getElem_toArray, List.getElem_cons_succ, List.getElem_cons_zero]
                refine take_at (some 87) (i := 19) (v := ?_) rfl rfl (by kernel_rfl) (by kernel_rfl) (by kernel_rfl) (fun _ _ _ h => h) (Or.inl ⟨by kernel_rfl, ?_⟩) hHeld ?_
                rotate_left
                · intro wz hSw; go_simp; try (with_reducible rfl)
                try simp only [Act.put, List.setIfInBounds_toArray, List.set_cons_zero, List.set_cons_succ, List.getElem_toArray, List.getElem_cons_succ, List.getElem_cons_zero]
                refine take_at (some 88) (i := 20) (v := ?_) rfl rfl (by kernel_rfl) (by kernel_rfl) (by kernel_rfl) (fun _ _ _ h => h) (Or.inl ⟨by kernel_rfl, ?_⟩) hHeld ?_
                rotate_left
                · intro wz hSw; go_simp; try (with_reducible rfl)
                try simp only [Act.put, List.setIfInBounds_toArray, List.set_cons_zero, List.set_cons_succ, List.getElem_toArray, List.getElem_cons_succ, List.getElem_cons_zero]
                refine take_at (some 89) (i := 21) (v := undef) rfl rfl (by kernel_rfl) (by kernel_rfl) (by kernel_rfl) (fun _ _ _ h => h) (Or.inr ⟨by kernel_rfl, rfl⟩) hHeld ?_
                try simp only [Act.put, List.setIfInBounds_toArray, List.set_cons_zero, List.set_cons_succ, List.getElem_toArray, List.getElem_cons_succ, List.getElem_cons_zero]
                refine take_at (some 90) (i := 22) (v := undef) rfl rfl (by kernel_rfl) (by kernel_rfl) (by kernel_rfl) (fun _ _ _ h => h) (Or.inr ⟨by kernel_rfl, rfl⟩) hHeld ?_
                try simp only [Act.put, List.setIfInBounds_toArray, List.set_cons_zero, List.set_cons_succ, List.getElem_toArray, List.getElem_cons_succ, List.getElem_cons_zero]
                refine take_at (some 91) (i := 23) (v := undef) rfl rfl (by kernel_rfl) (by kernel_rfl) (by kernel_rfl) (fun _ _ _ h => h) (Or.inr ⟨by kernel_rfl, rfl⟩) hHeld ?_
                try simp only [Act.put, List.setIfInBounds_toArray, List.set_cons_zero, List.set_cons_succ, List.getElem_toArray, List.getElem_cons_succ, List.getElem_cons_zero]
                refine take_at (some 92) (i := 24) (v := ?_) rfl rfl (by kernel_rfl) (by kernel_rfl) (by kernel_rfl) (fun _ _ _ h => h) (Or.inl ⟨by kernel_rfl, ?_⟩) hHeld ?_
                rotate_left
                · intro wz hSw; go_simp; try (with_reducible rfl)
                try simp only [Act.put, List.setIfInBounds_toArray, List.set_cons_zero, List.set_cons_succ, List.getElem_toArray, List.getElem_cons_succ, List.getElem_cons_zero]
                refine take_at (some 93) (i := 25) (v := ?_) rfl rfl (by kernel_rfl) (by kernel_rfl) (by kernel_rfl) (fun _ _ _ h => h) (Or.inl ⟨by kernel_rfl, ?_⟩) hHeld ?_
                rotate_left
                · intro wz hSw; go_simp; try (with_reducible rfl)
                try simp only [Act.put, List.setIfInBounds_toArray, List.set_cons_zero, List.set_cons_succ, List.getElem_toArray, List.getElem_cons_succ, List.getElem_cons_zero]
                refine take_at (some 94) (i := 26) (v := undef) rfl rfl (by kernel_rfl) (by kernel_rfl) (by kernel_rfl) (fun _ _ _ h => h) (Or.inr ⟨by kernel_rfl, rfl⟩) hHeld ?_
                try simp only [Act.put, List.setIfInBounds_toArray, List.set_cons_zero, List.set_cons_succ, List.getElem_toArray, List.getElem_cons_succ, List.getElem_cons_zero]
                refine take_at (some 95) (i := 27) (v := undef) rfl rfl (by kernel_rfl) (by kernel_rfl) (by kernel_rfl) (fun _ _ _ h => h) (Or.inr ⟨by kernel_rfl, rfl⟩) hHeld ?_
                try simp only [Act.put, List.setIfInBounds_toArray, List.set_cons_zero, List.set_cons_succ, List.getElem_toArray, List.getElem_cons_succ, List.getElem_cons_zero]
                refine take_at (some 96) (i := 28) (v := undef) rfl rfl (by kernel_rfl) (by kernel_rfl) (by kernel_rfl) (fun _ _ _ h => h) (Or.inr ⟨by kernel_rfl, rfl⟩) hHeld ?_
                try simp only [Act.put, List.setIfInBounds_toArray, List.set_cons_zero, List.set_cons_succ, List.getElem_toArray, List.getElem_cons_succ, List.getElem_cons_zero]
                refine take_at (some 97) (i := 29) (v := undef) rfl rfl (by kernel_rfl) (by kernel_rfl) (by kernel_rfl) (fun _ _ _ h => h) (Or.inr ⟨by kernel_rfl, rfl⟩) hHeld ?_
                try simp only [Act.put, List.setIfInBounds_toArray, List.set_cons_zero, List.set_cons_succ, List.getElem_toArray, List.getElem_cons_succ, List.getElem_cons_zero]
                refine take_at (some 98) (i := 30) (v := ?_) rfl rfl (by kernel_rfl) (by kernel_rfl) (by kernel_rfl) (fun _ _ _ h => h) (Or.inl ⟨by kernel_rfl, ?_⟩) hHeld ?_
                rotate_left
                · intro wz hSw; go_simp; try (with_reducible rfl)
                try simp only [Act.put, List.setIfInBounds_toArray, List.set_cons_zero, List.set_cons_succ, List.getElem_toArray, List.getElem_cons_succ, List.getElem_cons_zero]
                refine take_at (some 99) (i := 31) (v := ?_) rfl rfl (by kernel_rfl) (by kernel_rfl) (by kernel_rfl) (fun _ _ _ h => h) (Or.inl ⟨by kernel_rfl, ?_⟩) hHeld ?_
                rotate_left
                · intro wz hSw; go_simp; try (with_reducible rfl)
                try simp only [Act.put, List.setIfInBounds_toArray, List.set_cons_zero, List.set_cons_succ, List.getElem_toArray, List.getElem_cons_succ, List.getElem_cons_zero]
                refine take_at (some 100) (i := 32) (v := undef) rfl rfl (by kernel_rfl) (by kernel_rfl) (by kernel_rfl) (fun _ _ _ h => h) (Or.inr ⟨by kernel_rfl, rfl⟩) hHeld ?_
                try simp only [Act.put, List.setIfInBounds_toArray, List.set_cons_zero, List.set_cons_succ, List.getElem_toArray, List.getElem_cons_succ, List.getElem_cons_zero]
                refine take_at (some 101) (i := 33) (v := undef) rfl rfl (by kernel_rfl) (by kernel_rfl) (by kernel_rfl) (fun _ _ _ h => h) (Or.inr ⟨by kernel_rfl, rfl⟩) hHeld ?_
                try simp only [Act.put, List.setIfInBounds_toArray, List.set_cons_zero, List.set_cons_succ, List.getElem_toArray, List.getElem_cons_succ, List.getElem_cons_zero]
                refine take_at (some 102) (i := 34) (v := undef) rfl rfl (by kernel_rfl) (by kernel_rfl) (by kernel_rfl) (fun _ _ _ h => h) (Or.inr ⟨by kernel_rfl, rfl⟩) hHeld ?_
                try simp only [Act.put, List.setIfInBounds_toArray, List.set_cons_zero, List.set_cons_succ, List.getElem_toArray, List.getElem_cons_succ, List.getElem_cons_zero]
                refine take_at (some 103) (i := 35) (v := ?_) rfl rfl (by kernel_rfl) (by kernel_rfl) (by kernel_rfl) (fun _ _ _ h => h) (Or.inl ⟨by kernel_rfl, ?_⟩) hHeld ?_
                rotate_left
                · intro wz hSw; go_simp; try (with_reducible rfl)
                try simp only [Act.put, List.setIfInBounds_toArray, List.set_cons_zero, List.set_cons_succ, List.getElem_toArray, List.getElem_cons_succ, List.getElem_cons_zero]
                refine take_at (some 104) (i := 36) (v := ?_) rfl rfl (by kernel_rfl) (by kernel_rfl) (by kernel_rfl) (fun _ _ _ h => h) (Or.inl ⟨by kernel_rfl, ?_⟩) hHeld ?_
                rotate_left
                · intro wz hSw; go_simp; try (with_reducible rfl)
                try simp only [Act.put, List.setIfInBounds_toArray, List.set_cons_zero, List.set_cons_succ, List.getElem_toArray, List.getElem_cons_succ, List.getElem_cons_zero]
                refine take_at (some 105) (i := 37) (v := undef) rfl rfl (by kernel_rfl) (by kernel_rfl) (by kernel_rfl) (fun _ _ _ h => h) (Or.inr ⟨by kernel_rfl, rfl⟩) hHeld ?_
                try simp only [Act.put, List.setIfInBounds_toArray, List.set_cons_zero, List.set_cons_succ, List.getElem_toArray, List.getElem_cons_succ, List.getElem_cons_zero]
                refine take_at (some 106) (i := 38) (v := undef) rfl rfl (by kernel_rfl) (by kernel_rfl) (by kernel_rfl) (fun _ _ _ h => h) (Or.inr ⟨by kernel_rfl, rfl⟩) hHeld ?_
                try simp only [Act.put, List.setIfInBounds_toArray, List.set_cons_zero, List.set_cons_succ, List.getElem_toArray, List.getElem_cons_succ, List.getElem_cons_zero]
                refine take_at (some 107) (i := 39) (v := undef) rfl rfl (by kernel_rfl) (by kernel_rfl) (by kernel_rfl) (fun _ _ _ h => h) (Or.inr ⟨by kernel_rfl, rfl⟩) hHeld ?_
                try simp only [Act.put, List.setIfInBounds_toArray, List.set_cons_zero, List.set_cons_succ, List.getElem_toArray, List.getElem_cons_succ, List.getElem_cons_zero]
                refine take_at (some 108) (i := 40) (v := ?_) rfl rfl (by kernel_rfl) (by kernel_rfl) (by kernel_rfl) (fun _ _ _ h => h) (Or.inl ⟨by kernel_rfl, ?_⟩) hHeld ?_
                rotate_left
                · intro wz hSw; go_simp; try (with_reducible rfl)
                try simp only [Act.put, List.setIfInBounds_toArray, List.set_cons_zero, List.set_cons_succ, List.getElem_toArray, List.getElem_cons_succ, List.getElem_cons_zero]
                refine wpAnyH_done (by kernel_rfl) ?_ _
                refine gen_qT (fun y => Below wn.heap.size wn y) hHeld (fun y hy => ?_)
                clear hHeld
                go_wp2
                go_ret
                exact ⟨by rw [HD.out, HST.out]; rw [HZ.out]; simp, (HK0.out.on hy).l⟩
              | true =>
                have HZ := Lib.hid (show ltS (if i = 0 then ByteArray.empty else pn) xn = true by rw [if_neg hi0]; exact hlt)
                refine take_at (some 76) (i := 8) (v := ?_) rfl rfl (by kernel_rfl) (by kernel_rfl) (by kernel_rfl) (fun _ _ _ h => h) (Or.inl ⟨by kernel_rfl, ?_⟩) hHeld ?_
                rotate_left
                · intro wz hSw; have hk := HK1.out.below hSw HK1.out.lt; have k0 : wz.cell? ⟨gk, 0, none⟩ = some (.string xn) := hk.cell 0; have k1 : wz.cell? ⟨gk, 1, none⟩ = some (.string xs) := hk.cell 1; have k2 : wz.cell? ⟨gk, 2, none⟩ = some (.int .i64 xu) := hk.cell 2; have ht := HK0.out.on hSw; have k4 : wz.cell? ⟨w.heap.size, 4, none⟩ = some (.slice (some ⟨bb, o, none⟩) m ck) := ht.cell 4; have k5 := HPC.out wz ht.l; clear hk ht; go_simp; try (with_reducible rfl)
                try simp only [Act.put, List.setIfInBounds_toArray, List.set_cons_zero, List.set_cons_succ, List.getElem_toArray, List.getElem_cons_succ, List.getElem_cons_zero]
                refine take_at (some 77) (i := 9) (v := ?_) rfl rfl (by kernel_rfl) (by kernel_rfl) (by kernel_rfl) (fun _ _ _ h => h) (Or.inl ⟨by kernel_rfl, ?_⟩) hHeld ?_
                rotate_left
                · intro wz hSw; have hk := HK1.out.below hSw HK1.out.lt; have k0 : wz.cell? ⟨gk, 0, none⟩ = some (.string xn) := hk.cell 0; have k1 : wz.cell? ⟨gk, 1, none⟩ = some (.string xs) := hk.cell 1; have k2 : wz.cell? ⟨gk, 2, none⟩ = some (.int .i64 xu) := hk.cell 2; have ht := HK0.out.on hSw; have k4 : wz.cell? ⟨w.heap.size, 4, none⟩ = some (.slice (some ⟨bb, o, none⟩) m ck) := ht.cell 4; have k5 := HPC.out wz ht.l; clear hk ht; go_simp; try (with_reducible rfl)
                try simp only [Act.put, List.setIfInBounds_toArray, List.set_cons_zero, List.set_cons_succ, List.getElem_toArray, List.getElem_cons_succ, List.getElem_cons_zero]
                refine take_at (some 78) (i := 10) (v := ?_) rfl rfl (by kernel_rfl) (by kernel_rfl) (by kernel_rfl) (fun _ _ _ h => h) (Or.inl ⟨by kernel_rfl, ?_⟩) hHeld ?_
                rotate_left
                · intro wz hSw; go_simp; try (with_reducible rfl)
                try simp only [Act.put, List.setIfInBounds_toArray, List.set_cons_zero, List.set_cons_succ, List.getElem_toArray, List.getElem_cons_succ, List.getElem_cons_zero]
                refine take_at (some 79) (i := 11) (v := ?_) rfl rfl (by kernel_rfl) (by kernel_rfl) (by kernel_rfl) (fun _ _ _ h => h) (Or.inl ⟨by kernel_rfl, ?_⟩) hHeld ?_
                rotate_left
                · intro wz hSw; have hk := HK1.out.below hSw HK1.out.lt; have k0 : wz.cell? ⟨gk, 0, none⟩ = some (.string xn) := hk.cell 0; have k1 : wz.cell? ⟨gk, 1, none⟩ = some (.string xs) := hk.cell 1; have k2 : wz.cell? ⟨gk, 2, none⟩ = some (.int .i64 xu) := hk.cell 2; have ht := HK0.out.on hSw; have k4 : wz.cell? ⟨w.heap.size, 4, none⟩ = some (.slice (some ⟨bb, o, none⟩) m ck) := ht.cell 4; have k5 := HPC.out wz ht.l; clear hk ht; go_simp; try (with_reducible rfl)
                try simp only [Act.put, List.setIfInBounds_toArray, List.set_cons_zero, List.set_cons_succ, List.getElem_toArray, List.getElem_cons_succ, List.getElem_cons_zero]
                refine take_at (some 80) (i := 12) (v := ?_) rfl rfl (by kernel_rfl) (by kernel_rfl) (by kernel_rfl) (fun _ _ _ h => h) (Or.inl ⟨by kernel_rfl, ?_⟩) hHeld ?_
                rotate_left
                · intro wz hSw; have hk := HK1.out.below hSw HK1.out.lt; have k0 : wz.cell? ⟨gk, 0, none⟩ = some (.string xn) := hk.cell 0; have k1 : wz.cell? ⟨gk, 1, none⟩ = some (.string xs) := hk.cell 1; have k2 : wz.cell? ⟨gk, 2, none⟩ = some (.int .i64 xu) := hk.cell 2; have ht := HK0.out.on hSw; have k4 : wz.cell? ⟨w.heap.size, 4, none⟩ = some (.slice (some ⟨bb, o, none⟩) m ck) := ht.cell 4; have k5 := HPC.out wz ht.l; clear hk ht; go_simp; try (with_reducible rfl)
                try simp only [Act.put, List.setIfInBounds_toArray, List.set_cons_zero, List.set_cons_succ, List.getElem_toArray, List.getElem_cons_succ, List.getElem_cons_zero]
                refine take_at (some 81) (i := 13) (v := ?_) rfl rfl (by kernel_rfl) (by kernel_rfl) (by kernel_rfl) (fun _ _ _ h => h) (Or.inl ⟨by kernel_rfl, ?_⟩) hHeld ?_
                rotate_left
                · intro wz hSw; have hk := HK1.out.below hSw HK1.out.lt; have k0 : wz.cell? ⟨gk, 0, none⟩ = some (.string xn) := hk.cell 0; have k1 : wz.cell? ⟨gk, 1, none⟩ = some (.string xs) := hk.cell 1; have k2 : wz.cell? ⟨gk, 2, none⟩ = some (.int .i64 xu) := hk.cell 2; have ht := HK0.out.on hSw; have k4 : wz.cell? ⟨w.heap.size, 4, none⟩ = some (.slice (some ⟨bb, o, none⟩) m ck) := ht.cell 4; have k5 := HPC.out wz ht.l; clear hk ht; go_simp; try (with_reducible rfl)
                try simp only [Act.put, List.setIfInBounds_toArray, List.set_cons_zero, List.set_cons_succ, List.getElem_toArray, List.getElem_cons_succ, List.getElem_cons_zero]
                refine take_at (some 82) (i := 14) (v := ?_) rfl rfl (by kernel_rfl) (by kernel_rfl) (by kernel_rfl) (fun _ _ _ h => h) (Or.inl ⟨by kernel_rfl, ?_⟩) hHeld ?_
                rotate_left
                · intro wz hSw; have hk := HK1.out.below hSw HK1.out.lt; have k0 : wz.cell? ⟨gk, 0, none⟩ = some (.string xn) := hk.cell 0; have k1 : wz.cell? ⟨gk, 1, none⟩ = some (.string xs) := hk.cell 1; have k2 : wz.cell? ⟨gk, 2, none⟩ = some (.int .i64 xu) := hk.cell 2; have ht := HK0.out.on hSw; have k4 : wz.cell? ⟨w.heap.size, 4, none⟩ = some (.slice (some ⟨bb, o, none⟩) m ck) := ht.cell 4; have k5 := HPC.out wz ht.l; clear hk ht; go_simp; try (with_reducible rfl)
                try simp only [Act.put, List.setIfInBounds_toArray, List.set_cons_zero, List.set_cons_succ, List.getElem_toArray, List.getElem_cons_succ, List.getElem_cons_zero]
                refine take_at (some 83) (i := 15) (v := ?_) rfl rfl (by kernel_rfl) (by kernel_rfl) (by kernel_rfl) (fun _ _ _ h => h) (Or.inl ⟨by kernel_rfl, ?_⟩) hHeld ?_
                rotate_left
                · intro wz hSw; have hk := HK1.out.below hSw HK1.out.lt; have k0 : wz.cell? ⟨gk, 0, none⟩ = some (.string xn) := hk.cell 0; have k1 : wz.cell? ⟨gk, 1, none⟩ = some (.string xs) := hk.cell 1; have k2 : wz.cell? ⟨gk, 2, none⟩ = some (.int .i64 xu) := hk.cell 2; have ht := HK0.out.on hSw; have k4 : wz.cell? ⟨w.heap.size, 4, none⟩ = some (.slice (some ⟨bb, o, none⟩) m ck) := ht.cell 4; have k5 := HPC.out wz ht.l; clear hk ht; go_simp; try (with_reducible rfl)
                try simp only [Act.put, List.setIfInBounds_toArray, List.set_cons_zero, List.set_cons_succ, List.getElem_toArray, List.getElem_cons_succ, List.getElem_cons_zero]
                refine take_at (some 84) (i := 16) (v := ?_) rfl rfl (by kernel_rfl) (by kernel_rfl) (by kernel_rfl) (fun _ _ _ h => h) (Or.inl ⟨by kernel_rfl, ?_⟩) hHeld ?_
                rotate_left
                · intro wz hSw; have hk := HK1.out.below hSw HK1.out.lt; have k0 : wz.cell? ⟨gk, 0, none⟩ = some (.string xn) := hk.cell 0; have k1 : wz.cell? ⟨gk, 1, none⟩ = some (.string xs) := hk.cell 1; have k2 : wz.cell? ⟨gk, 2, none⟩ = some (.int .i64 xu) := hk.cell 2; have ht := HK0.out.on hSw; have k4 : wz.cell? ⟨w.heap.size, 4, none⟩ = some (.slice (some ⟨bb, o, none⟩) m ck) := ht.cell 4; have k5 := HPC.out wz ht.l; clear hk ht; go_simp; try (with_reducible rfl)
                try simp only [Act.put, List.setIfInBounds_toArray, List.set_cons_zero, List.set_cons_succ, List.getElem_toArray, List.getElem_cons_succ, List.getElem_cons_zero]
                refine take_at (some 85) (i := 17) (v := ?_) rfl rfl (by kernel_rfl) (by kernel_rfl) (by kernel_rfl) (fun _ _ _ h => h) (Or.inl ⟨by kernel_rfl, ?_⟩) hHeld ?_
                rotate_left
                · intro wz hSw; have hk := HK1.out.below hSw HK1.out.lt; have k0 : wz.cell? ⟨gk, 0, none⟩ = some (.string xn) := hk.cell 0; have k1 : wz.cell? ⟨gk, 1, none⟩ = some (.string xs) := hk.cell 1; have k2 : wz.cell? ⟨gk, 2, none⟩ = some (.int .i64 xu) := hk.cell 2; have ht := HK0.out.on hSw; have k4 : wz.cell? ⟨w.heap.size, 4, none⟩ = some (.slice (some ⟨bb, o, none⟩) m ck) := ht.cell 4; have k5 := HPC.out wz ht.l; clear hk ht; go_simp; try (with_reducible rfl)
                try simp only [Act.put, List.setIfInBounds_toArray, List.set_cons_zero, List.set_cons_succ, List.getElem_toArray, List.getElem_cons_succ, List.getElem_cons_zero]
                refine take_at (some 86) (i := 18) (v := ?_) rfl rfl (by kernel_rfl) (by kernel_rfl) (by kernel_rfl) (fun _ _ _ h => h) (Or.inl ⟨by kernel_rfl, ?_⟩) hHeld ?_
                rotate_left
                · intro wz hSw; go_simp; try (with_reducible rfl)
                try simp only [Act.put, List.setIfInBounds_toArray, List.set_cons_zero, List.set_cons_succ, List.getElem_toArray, List.getElem_cons_succ, List.getElem_cons_zero]
                refine take_at (some 87) (i := 19) (v := ?_) rfl rfl (by kernel_rfl) (by kernel_rfl) (by kernel_rfl) (fun _ _ _ h => h) (Or.inl ⟨by kernel_rfl, ?_⟩) hHeld ?_
                rotate_left
                · intro wz hSw; go_simp; try (with_reducible rfl)
                try simp only [Act.put, List.setIfInBounds_toArray, List.set_cons_zero, List.set_cons_succ, List.getElem_toArray, List.getElem_cons_succ, List.getElem_cons_zero]
                refine take_at (some 88) (i := 20) (v := ?_) rfl rfl (by kernel_rfl) (by kernel_rfl) (by kernel_rfl) (fun _ _ _ h => h) (Or.inl ⟨by kernel_rfl, ?_⟩) hHeld ?_
                rotate_left
                · intro wz hSw; go_simp; try (with_reducible rfl)
                try simp only [Act.put, List.setIfInBounds_toArray, List.set_cons_zero, List.set_cons_succ, List.getElem_toArray, List.getElem_cons_succ, List.getElem_cons_zero]
                by_cases hs0 : xs.size = 0
                case pos =>
                  have hq0 : (xs.toList == []) = true := by rw [HSQ.out]; exact decide_eq_true hs0
                  have HTF := Lib.hid (HTN.out (by omega))
                  refine take_at (some 89) (i := 21) (v := ?_) rfl rfl (by kernel_rfl) (by kernel_rfl) (by kernel_rfl) (fun _ _ _ h => h) (Or.inl ⟨by kernel_rfl, ?_⟩) hHeld ?_
                  rotate_left
                  · intro wz hSw; have hk := HK1.out.below hSw HK1.out.lt; have k0 : wz.cell? ⟨gk, 0, none⟩ = some (.string xn) := hk.cell 0; have k1 : wz.cell? ⟨gk, 1, none⟩ = some (.string xs) := hk.cell 1; have k2 : wz.cell? ⟨gk, 2, none⟩ = some (.int .i64 xu) := hk.cell 2; have ht := HK0.out.on hSw; have k4 : wz.cell? ⟨w.heap.size, 4, none⟩ = some (.slice (some ⟨bb, o, none⟩) m ck) := ht.cell 4; have k5 := HPC.out wz ht.l; clear hk ht; go_simp; try (with_reducible rfl)
                  try simp only [Act.put, List.setIfInBounds_toArray, List.set_cons_zero, List.set_cons_succ, List.getElem_toArray, List.getElem_cons_succ, List.getElem_cons_zero]
                  refine take_at (some 90) (i := 22) (v := ?_) rfl rfl (by kernel_rfl) (by kernel_rfl) (by kernel_rfl) (fun _ _ _ h => h) (Or.inl ⟨by kernel_rfl, ?_⟩) hHeld ?_
                  rotate_left
                  · intro wz hSw; have hk := HK1.out.below hSw HK1.out.lt; have k0 : wz.cell? ⟨gk, 0, none⟩ = some (.string xn) := hk.cell 0; have k1 : wz.cell? ⟨gk, 1, none⟩ = some (.string xs) := hk.cell 1; have k2 : wz.cell? ⟨gk, 2, none⟩ = some (.int .i64 xu) := hk.cell 2; have ht := HK0.out.on hSw; have k4 : wz.cell? ⟨w.heap.size, 4, none⟩ = some (.slice (some ⟨bb, o, none⟩) m ck) := ht.cell 4; have k5 := HPC.out wz ht.l; clear hk ht; go_simp; try (with_reducible rfl)
                  try simp only [Act.put, List.setIfInBounds_toArray, List.set_cons_zero, List.set_cons_succ, List.getElem_toArray, List.getElem_cons_succ, List.getElem_cons_zero]
                  refine take_at (some 91) (i := 23) (v := ?_) rfl rfl (by kernel_rfl) (by kernel_rfl) (by kernel_rfl) (fun _ _ _ h => h) (Or.inl ⟨by kernel_rfl, ?_⟩) hHeld ?_
                  rotate_left
                  · intro wz hSw; have hk := HK1.out.below hSw HK1.out.lt; have k0 : wz.cell? ⟨gk, 0, none⟩ = some (.string xn) := hk.cell 0; have k1 : wz.cell? ⟨gk, 1, none⟩ = some (.string xs) := hk.cell 1; have k2 : wz.cell? ⟨gk, 2, none⟩ = some (.int .i64 xu) := hk.cell 2; have ht := HK0.out.on hSw; have k4 : wz.cell? ⟨w.heap.size, 4, none⟩ = some (.slice (some ⟨bb, o, none⟩) m ck) := ht.cell 4; have k5 := HPC.out wz ht.l; clear hk ht; go_simp; try (with_reducible rfl)
                  try simp only [Act.put, List.setIfInBounds_toArray, List.set_cons_zero, List.set_cons_succ, List.getElem_toArray, List.getElem_cons_succ, List.getElem_cons_zero]
                  refine take_at (some 92) (i := 24) (v := ?_) rfl rfl (by kernel_rfl) (by kernel_rfl) (by kernel_rfl) (fun _ _ _ h => h) (Or.inl ⟨by kernel_rfl, ?_⟩) hHeld ?_
                  rotate_left
                  · intro wz hSw; go_simp; try (with_reducible rfl)
                  try simp only [Act.put, List.setIfInBounds_toArray, List.set_cons_zero, List.set_cons_succ, List.getElem_toArray, List.getElem_cons_succ, List.getElem_cons_zero]
                  refine take_at (some 93) (i := 25) (v := ?_) rfl rfl (by kernel_rfl) (by kernel_rfl) (by kernel_rfl) (fun _ _ _ h => h) (Or.inl ⟨by kernel_rfl, ?_⟩) hHeld ?_
                  rotate_left
                  · intro wz hSw; go_simp; try (with_reducible rfl)
                  try simp only [Act.put, List.setIfInBounds_toArray, List.set_cons_zero, List.set_cons_succ, List.getElem_toArray, List.getElem_cons_succ, List.getElem_cons_zero]
                  refine take_at (some 94) (i := 26) (v := undef) rfl rfl (by kernel_rfl) (by kernel_rfl) (by kernel_rfl) (fun _ _ _ h => h) (Or.inr ⟨by kernel_rfl, rfl⟩) hHeld ?_
                  try simp only [Act.put, List.setIfInBounds_toArray, List.set_cons_zero, List.set_cons_succ, List.getElem_toArray, List.getElem_cons_succ, List.getElem_cons_zero]
                  refine take_at (some 95) (i := 27) (v := undef) rfl rfl (by kernel_rfl) (by kernel_rfl) (by kernel_rfl) (fun _ _ _ h => h) (Or.inr ⟨by kernel_rfl, rfl⟩) hHeld ?_
                  try simp only [Act.put, List.setIfInBounds_toArray, List.set_cons_zero, List.set_cons_succ, List.getElem_toArray, List.getElem_cons_succ, List.getElem_cons_zero]
                  refine take_at (some 96) (i := 28) (v := undef) rfl rfl (by kernel_rfl) (by kernel_rfl) (by kernel_rfl) (fun _ _ _ h => h) (Or.inr ⟨by kernel_rfl, rfl⟩) hHeld ?_
                  try simp only [Act.put, List.setIfInBounds_toArray, List.set_cons_zero, List.set_cons_succ, List.getElem_toArray, List.getElem_cons_succ, List.getElem_cons_zero]
                  refine take_at (some 97) (i := 29) (v := undef) rfl rfl (by kernel_rfl) (by kernel_rfl) (by kernel_rfl) (fun _ _ _ h => h) (Or.inr ⟨by kernel_rfl, rfl⟩) hHeld ?_
                  try simp only [Act.put, List.setIfInBounds_toArray, List.set_cons_zero, List.set_cons_succ, List.getElem_toArray, List.getElem_cons_succ, List.getElem_cons_zero]
                  refine take_at (some 98) (i := 30) (v := ?_) rfl rfl (by kernel_rfl) (by kernel_rfl) (by kernel_rfl) (fun _ _ _ h => h) (Or.inl ⟨by kernel_rfl, ?_⟩) hHeld ?_
                  rotate_left
                  · intro wz hSw; go_simp; try (with_reducible rfl)
                  try simp only [Act.put, List.setIfInBounds_toArray, List.set_cons_zero, List.set_cons_succ, List.getElem_toArray, List.getElem_cons_succ, List.getElem_cons_zero]
                  refine take_at (some 99) (i := 31) (v := ?_) rfl rfl (by kernel_rfl) (by kernel_rfl) (by kernel_rfl) (fun _ _ _ h => h) (Or.inl ⟨by kernel_rfl, ?_⟩) hHeld ?_
                  rotate_left
                  · intro wz hSw; go_simp; try (with_reducible rfl)
                  try simp only [Act.put, List.setIfInBounds_toArray, List.set_cons_zero, List.set_cons_succ, List.getElem_toArray, List.getElem_cons_succ, List.getElem_cons_zero]
                  refine take_at (some 100) (i := 32) (v := undef) rfl rfl (by kernel_rfl) (by kernel_rfl) (by kernel_rfl) (fun _ _ _ h => h) (Or.inr ⟨by kernel_rfl, rfl⟩) hHeld ?_
                  try simp only [Act.put, List.setIfInBounds_toArray, List.set_cons_zero, List.set_cons_succ, List.getElem_toArray, List.getElem_cons_succ, List.getElem_cons_zero]
                  refine take_at (some 101) (i := 33) (v := undef) rfl rfl (by kernel_rfl) (by kernel_rfl) (by kernel_rfl) (fun _ _ _ h => h) (Or.inr ⟨by kernel_rfl, rfl⟩) hHeld ?_
                  try simp only [Act.put, List.setIfInBounds_toArray, List.set_cons_zero, List.set_cons_succ, List.getElem_toArray, List.getElem_cons_succ, List.getElem_cons_zero]
                  refine take_at (some 102) (i := 34) (v := undef) rfl rfl (by kernel_rfl) (by kernel_rfl) (by kernel_rfl) (fun _ _ _ h => h) (Or.inr ⟨by kernel_rfl, rfl⟩) hHeld ?_
                  try simp only [Act.put, List.setIfInBounds_toArray, List.set_cons_zero, List.set_cons_succ, List.getElem_toArray, List.getElem_cons_succ, List.getElem_cons_zero]
                  refine take_at (some 103) (i := 35) (v := ?_) rfl rfl (by kernel_rfl) (by kernel_rfl) (by kernel_rfl) (fun _ _ _ h => h) (Or.inl ⟨by kernel_rfl, ?_⟩) hHeld ?_
                  rotate_left
                  · intro wz hSw; go_simp; try (with_reducible rfl)
                  try simp only [Act.put, List.setIfInBounds_toArray, List.set_cons_zero, List.set_cons_succ, List.getElem_toArray, List.getElem_cons_succ, List.getElem_cons_zero]
                  refine take_at (some 104) (i := 36) (v := ?_) rfl rfl (by kernel_rfl) (by kernel_rfl) (by kernel_rfl) (fun _ _ _ h => h) (Or.inl ⟨by kernel_rfl, ?_⟩) hHeld ?_
                  rotate_left
                  · intro wz hSw; go_simp; try (with_reducible rfl)
                  try simp only [Act.put, List.setIfInBounds_toArray, List.set_cons_zero, List.set_cons_succ, List.getElem_toArray, List.getElem_cons_succ, List.getElem_cons_zero]
                  refine take_at (some 105) (i := 37) (v := undef) rfl rfl (by kernel_rfl) (by kernel_rfl) (by kernel_rfl) (fun _ _ _ h => h) (Or.inr ⟨by kernel_rfl, rfl⟩) hHeld ?_
                  try simp only [Act.put, List.setIfInBounds_toArray, List.set_cons_zero, List.set_cons_succ, List.getElem_toArray, List.getElem_cons_succ, List.getElem_cons_zero]
                  refine take_at (some 106) (i := 38) (v := undef) rfl rfl (by kernel_rfl) (by kernel_rfl) (by kernel_rfl) (fun _ _ _ h => h) (Or.inr ⟨by kernel_rfl, rfl⟩) hHeld ?_
                  try simp only [Act.put, List.setIfInBounds_toArray, List.set_cons_zero, List.set_cons_succ, List.getElem_toArray, List.getElem_cons_succ, List.getElem_cons_zero]
                  refine take_at (some 107) (i := 39) (v := undef) rfl rfl (by kernel_rfl) (by kernel_rfl) (by kernel_rfl) (fun _ _ _ h => h) (Or.inr ⟨by kernel_rfl, rfl⟩) hHeld ?_
                  try simp only [Act.put, List.setIfInBounds_toArray, List.set_cons_zero, List.set_cons_succ, List.getElem_toArray, List.getElem_cons_succ, List.getElem_cons_zero]
                  refine take_at (some 108) (i := 40) (v := ?_) rfl rfl (by kernel_rfl) (by kernel_rfl) (by kernel_rfl) (fun _ _ _ h => h) (Or.inl ⟨by kernel_rfl, ?_⟩) hHeld ?_
                  rotate_left
                  · intro wz hSw; go_simp; try (with_reducible rfl)
                  try simp only [Act.put, List.setIfInBounds_toArray, List.set_cons_zero, List.set_cons_succ, List.getElem_toArray, List.getElem_cons_succ, List.getElem_cons_zero]
                  refine wpAnyH_done (by kernel_rfl) ?_ _
                  refine gen_qT (fun y => Below wn.heap.size wn y) hHeld (fun y hy => ?_)
                  clear hHeld
                  go_wp2
                  go_ret
                  exact ⟨by rw [HD.out, HST.out]; rw [HTF.out]; simp, (HK0.out.on hy).l⟩
                have hq0 : (xs.toList == []) = false := by rw [HSQ.out]; exact decide_eq_false hs0
                refine take_at (some 89) (i := 21) (v := ?_) rfl rfl (by kernel_rfl) (by kernel_rfl) (by kernel_rfl) (fun _ _ _ h => h) (Or.inl ⟨by kernel_rfl, ?_⟩) hHeld ?_
                rotate_left
                · intro wz hSw; have hk := HK1.out.below hSw HK1.out.lt; have k0 : wz.cell? ⟨gk, 0, none⟩ = some (.string xn) := hk.cell 0; have k1 : wz.cell? ⟨gk, 1, none⟩ = some (.string xs) := hk.cell 1; have k2 : wz.cell? ⟨gk, 2, none⟩ = some (.int .i64 xu) := hk.cell 2; have ht := HK0.out.on hSw; have k4 : wz.cell? ⟨w.heap.size, 4, none⟩ = some (.slice (some ⟨bb, o, none⟩) m ck) := ht.cell 4; have k5 := HPC.out wz ht.l; clear hk ht; go_simp; try (with_reducible rfl)
                try simp only [Act.put, List.setIfInBounds_toArray, List.set_cons_zero, List.set_cons_succ, List.getElem_toArray, List.getElem_cons_succ, List.getElem_cons_zero]
                refine take_at (some 90) (i := 22) (v := ?_) rfl rfl (by kernel_rfl) (by kernel_rfl) (by kernel_rfl) (fun _ _ _ h => h) (Or.inl ⟨by kernel_rfl, ?_⟩) hHeld ?_
                rotate_left
                · intro wz hSw; have hk := HK1.out.below hSw HK1.out.lt; have k0 : wz.cell? ⟨gk, 0, none⟩ = some (.string xn) := hk.cell 0; have k1 : wz.cell? ⟨gk, 1, none⟩ = some (.string xs) := hk.cell 1; have k2 : wz.cell? ⟨gk, 2, none⟩ = some (.int .i64 xu) := hk.cell 2; have ht := HK0.out.on hSw; have k4 : wz.cell? ⟨w.heap.size, 4, none⟩ = some (.slice (some ⟨bb, o, none⟩) m ck) := ht.cell 4; have k5 := HPC.out wz ht.l; clear hk ht; go_simp; try (with_reducible rfl)
                try simp only [Act.put, List.setIfInBounds_toArray, List.set_cons_zero, List.set_cons_succ, List.getElem_toArray, List.getElem_cons_succ, List.getElem_cons_zero]
                refine take_at (some 91) (i := 23) (v := ?_) rfl rfl (by kernel_rfl) (by kernel_rfl) (by kernel_rfl) (fun _ _ _ h => h) (Or.inl ⟨by kernel_rfl, ?_⟩) hHeld ?_
                rotate_left
                · intro wz hSw; have hk := HK1.out.below hSw HK1.out.lt; have k0 : wz.cell? ⟨gk, 0, none⟩ = some (.string xn) := hk.cell 0; have k1 : wz.cell? ⟨gk, 1, none⟩ = some (.string xs) := hk.cell 1; have k2 : wz.cell? ⟨gk, 2, none⟩ = some (.int .i64 xu) := hk.cell 2; have ht := HK0.out.on hSw; have k4 : wz.cell? ⟨w.heap.size, 4, none⟩ = some (.slice (some ⟨bb, o, none⟩) m ck) := ht.cell 4; have k5 := HPC.out wz ht.l; clear hk ht; go_simp; try (with_reducible rfl)
                try simp only [Act.put, List.setIfInBounds_toArray, List.set_cons_zero, List.set_cons_succ, List.getElem_toArray, List.getElem_cons_succ, List.getElem_cons_zero]
                refine take_at (some 92) (i := 24) (v := ?_) rfl rfl (by kernel_rfl) (by kernel_rfl) (by kernel_rfl) (fun _ _ _ h => h) (Or.inl ⟨by kernel_rfl, ?_⟩) hHeld ?_
                rotate_left
                · intro wz hSw; go_simp; try (with_reducible rfl)
                try simp only [Act.put, List.setIfInBounds_toArray, List.set_cons_zero, List.set_cons_succ, List.getElem_toArray, List.getElem_cons_succ, List.getElem_cons_zero]
                refine take_at (some 93) (i := 25) (v := ?_) rfl rfl (by kernel_rfl) (by kernel_rfl) (by kernel_rfl) (fun _ _ _ h => h) (Or.inl ⟨by kernel_rfl, ?_⟩) hHeld ?_
                rotate_left
                · intro wz hSw; go_simp; try (with_reducible rfl)
                try simp only [Act.put, List.setIfInBounds_toArray, List.set_cons_zero, List.set_cons_succ, List.getElem_toArray, List.getElem_cons_succ, List.getElem_cons_zero]
                by_cases hs1 : xs.size ≤ 32
                case neg =>
                  have hs2 : (xs.size : Int) > 32 := by omega
                  have hs3 : (32 : Int) < (xs.size : Int) := by omega
                  have HTF := Lib.hid (HTN.out (by omega))
                  refine take_at (some 94) (i := 26) (v := ?_) rfl rfl (by kernel_rfl) (by kernel_rfl) (by kernel_rfl) (fun _ _ _ h => h) (Or.inl ⟨by kernel_rfl, ?_⟩) hHeld ?_
                  rotate_left
                  · intro wz hSw; have hk := HK1.out.below hSw HK1.out.lt; have k0 : wz.cell? ⟨gk, 0, none⟩ = some (.string xn) := hk.cell 0; have k1 : wz.cell? ⟨gk, 1, none⟩ = some (.string xs) := hk.cell 1; have k2 : wz.cell? ⟨gk, 2, none⟩ = some (.int .i64 xu) := hk.cell 2; have ht := HK0.out.on hSw; have k4 : wz.cell? ⟨w.heap.size, 4, none⟩ = some (.slice (some ⟨bb, o, none⟩) m ck) := ht.cell 4; have k5 := HPC.out wz ht.l; clear hk ht; go_simp; try (with_reducible rfl)
                  try simp only [Act.put, List.setIfInBounds_toArray, List.set_cons_zero, List.set_cons_succ, List.getElem_toArray, List.getElem_cons_succ, List.getElem_cons_zero]
                  refine take_at (some 95) (i := 27) (v := ?_) rfl rfl (by kernel_rfl) (by kernel_rfl) (by kernel_rfl) (fun _ _ _ h => h) (Or.inl ⟨by kernel_rfl, ?_⟩) hHeld ?_
                  rotate_left
                  · intro wz hSw; have hk := HK1.out.below hSw HK1.out.lt; have k0 : wz.cell? ⟨gk, 0, none⟩ = some (.string xn) := hk.cell 0; have k1 : wz.cell? ⟨gk, 1, none⟩ = some (.string xs) := hk.cell 1; have k2 : wz.cell? ⟨gk, 2, none⟩ = some (.int .i64 xu) := hk.cell 2; have ht := HK0.out.on hSw; have k4 : wz.cell? ⟨w.heap.size, 4, none⟩ = some (.slice (some ⟨bb, o, none⟩) m ck) := ht.cell 4; have k5 := HPC.out wz ht.l; clear hk ht; go_simp; try (with_reducible rfl)
                  try simp only [Act.put, List.setIfInBounds_toArray, List.set_cons_zero, List.set_cons_succ, List.getElem_toArray, List.getElem_cons_succ, List.getElem_cons_zero]
                  refine take_at (some 96) (i := 28) (v := ?_) rfl rfl (by kernel_rfl) (by kernel_rfl) (by kernel_rfl) (fun _ _ _ h => h) (Or.inl ⟨by kernel_rfl, ?_⟩) hHeld ?_
                  rotate_left
                  · intro wz hSw; have hk := HK1.out.below hSw HK1.out.lt; have k0 : wz.cell? ⟨gk, 0, none⟩ = some (.string xn) := hk.cell 0; have k1 : wz.cell? ⟨gk, 1, none⟩ = some (.string xs) := hk.cell 1; have k2 : wz.cell? ⟨gk, 2, none⟩ = some (.int .i64 xu) := hk.cell 2; have ht := HK0.out.on hSw; have k4 : wz.cell? ⟨w.heap.size, 4, none⟩ = some (.slice (some ⟨bb, o, none⟩) m ck) := ht.cell 4; have k5 := HPC.out wz ht.l; clear hk ht; go_simp; try (with_reducible rfl)
                  try simp only [Act.put, List.setIfInBounds_toArray, List.set_cons_zero, List.set_cons_succ, List.getElem_toArray, List.getElem_cons_succ, List.getElem_cons_zero]
                  refine take_at (some 97) (i := 29) (v := ?_) rfl rfl (by kernel_rfl) (by kernel_rfl) (by kernel_rfl) (fun _ _ _ h => h) (Or.inl ⟨by kernel_rfl, ?_⟩) hHeld ?_
                  rotate_left
                  · intro wz hSw; have hk := HK1.out.below hSw HK1.out.lt; have k0 : wz.cell? ⟨gk, 0, none⟩ = some (.string xn) := hk.cell 0; have k1 : wz.cell? ⟨gk, 1, none⟩ = some (.string xs) := hk.cell 1; have k2 : wz.cell? ⟨gk, 2, none⟩ = some (.int .i64 xu) := hk.cell 2; have ht := HK0.out.on hSw; have k4 : wz.cell? ⟨w.heap.size, 4, none⟩ = some (.slice (some ⟨bb, o, none⟩) m ck) := ht.cell 4; have k5 := HPC.out wz ht.l; clear hk ht; go_simp; try (with_reducible rfl)
                  try simp only [Act.put, List.setIfInBounds_toArray, List.set_cons_zero, List.set_cons_succ, List.getElem_toArray, List.getElem_cons_succ, List.getElem_cons_zero]
                  refine take_at (some 98) (i := 30) (v := ?_) rfl rfl (by kernel_rfl) (by kernel_rfl) (by kernel_rfl) (fun _ _ _ h => h) (Or.inl ⟨by kernel_rfl, ?_⟩) hHeld ?_
                  rotate_left
                  · intro wz hSw; go_simp; try (with_reducible rfl)
                  try simp only [Act.put, List.setIfInBounds_toArray, List.set_cons_zero, List.set_cons_succ, List.getElem_toArray, List.getElem_cons_succ, List.getElem_cons_zero]
                  refine take_at (some 99) (i := 31) (v := ?_) rfl rfl (by kernel_rfl) (by kernel_rfl) (by kernel_rfl) (fun _ _ _ h => h) (Or.inl ⟨by kernel_rfl, ?_⟩) hHeld ?_
                  rotate_left
                  · intro wz hSw; go_simp; try (with_reducible rfl)
                  try simp only [Act.put, List.setIfInBounds_toArray, List.set_cons_zero, List.set_cons_succ, List.getElem_toArray, List.getElem_cons_succ, List.getElem_cons_zero]
                  refine take_at (some 100) (i := 32) (v := undef) rfl rfl (by kernel_rfl) (by kernel_rfl) (by kernel_rfl) (fun _ _ _ h => h) (Or.inr ⟨by kernel_rfl, rfl⟩) hHeld ?_
                  try simp only [Act.put, List.setIfInBounds_toArray, List.set_cons_zero, List.set_cons_succ, List.getElem_toArray, List.getElem_cons_succ, List.getElem_cons_zero]
                  refine take_at (some 101) (i := 33) (v := undef) rfl rfl (by kernel_rfl) (by kernel_rfl) (by kernel_rfl) (fun _ _ _ h => h) (Or.inr ⟨by kernel_rfl, rfl⟩) hHeld ?_
                  try simp only [Act.put, List.setIfInBounds_toArray, List.set_cons_zero, List.set_cons_succ, List.getElem_toArray, List.getElem_cons_succ, List.getElem_cons_zero]
                  refine take_at (some 102) (i := 34) (v := undef) rfl rfl (by kernel_rfl) (by kernel_rfl) (by kernel_rfl) (fun _ _ _ h => h) (Or.inr ⟨by kernel_rfl, rfl⟩) hHeld ?_
                  try simp only [Act.put, List.setIfInBounds_toArray, List.set_cons_zero, List.set_cons_succ, List.getElem_toArray, List.getElem_cons_succ, List.getElem_cons_zero]
                  refine take_at (some 103) (i := 35) (v := ?_) rfl rfl (by kernel_rfl) (by kernel_rfl) (by kernel_rfl) (fun _ _ _ h => h) (Or.inl ⟨by kernel_rfl, ?_⟩) hHeld ?_
                  rotate_left
                  · intro wz hSw; go_simp; try (with_reducible rfl)
                  try simp only [Act.put, List.setIfInBounds_toArray, List.set_cons_zero, List.set_cons_succ, List.getElem_toArray, List.getElem_cons_succ, List.getElem_cons_zero]
                  refine take_at (some 104) (i := 36) (v := ?_) rfl rfl (by kernel_rfl) (by kernel_rfl) (by kernel_rfl) (fun _ _ _ h => h) (Or.inl ⟨by kernel_rfl, ?_⟩) hHeld ?_
                  rotate_left
                  · intro wz hSw; go_simp; try (with_reducible rfl)
                  try simp only [Act.put, List.setIfInBounds_toArray, List.set_cons_zero, List.set_cons_succ, List.getElem_toArray, List.getElem_cons_succ, List.getElem_cons_zero]
                  refine take_at (some 105) (i := 37) (v := undef) rfl rfl (by kernel_rfl) (by kernel_rfl) (by kernel_rfl) (fun _ _ _ h => h) (Or.inr ⟨by kernel_rfl, rfl⟩) hHeld ?_
                  try simp only [Act.put, List.setIfInBounds_toArray, List.set_cons_zero, List.set_cons_succ, List.getElem_toArray, List.getElem_cons_succ, List.getElem_cons_zero]
                  refine take_at (some 106) (i := 38) (v := undef) rfl rfl (by kernel_rfl) (by kernel_rfl) (by kernel_rfl) (fun _ _ _ h => h) (Or.inr ⟨by kernel_rfl, rfl⟩) hHeld ?_
                  try simp only [Act.put, List.setIfInBounds_toArray, List.set_cons_zero, List.set_cons_succ, List.getElem_toArray, List.getElem_cons_succ, List.getElem_cons_zero]
                  refine take_at (some 107) (i := 39) (v := undef) rfl rfl (by kernel_rfl) (by kernel_rfl) (by kernel_rfl) (fun _ _ _ h => h) (Or.inr ⟨by kernel_rfl, rfl⟩) hHeld ?_
                  try simp only [Act.put, List.setIfInBounds_toArray, List.set_cons_zero, List.set_cons_succ, List.getElem_toArray, List.getElem_cons_succ, List.getElem_cons_zero]
                  refine take_at (some 108) (i := 40) (v := ?_) rfl rfl (by kernel_rfl) (by kernel_rfl) (by kernel_rfl) (fun _ _ _ h => h) (Or.inl ⟨by kernel_rfl, ?_⟩) hHeld ?_
                  rotate_left
                  · intro wz hSw; go_simp; try (with_reducible rfl)
                  try simp only [Act.put, List.setIfInBounds_toArray, List.set_cons_zero, List.set_cons_succ, List.getElem_toArray, List.getElem_cons_succ, List.getElem_cons_zero]
                  refine wpAnyH_done (by kernel_rfl) ?_ _
                  refine gen_qT (fun y => Below wn.heap.size wn y) hHeld (fun y hy => ?_)
                  clear hHeld
                  go_wp2
                  go_ret
                  exact ⟨by rw [HD.out, HST.out]; rw [HTF.out]; simp, (HK0.out.on hy).l⟩
                have hs2 : ¬ (xs.size : Int) > 32 := by omega
                have hs3 : ¬ (32 : Int) < (xs.size : Int) := by omega
                refine take_at (some 94) (i := 26) (v := ?_) rfl rfl (by kernel_rfl) (by kernel_rfl) (by kernel_rfl) (fun _ _ _ h => h) (Or.inl ⟨by kernel_rfl, ?_⟩) hHeld ?_
                rotate_left
                · intro wz hSw; have hk := HK1.out.below hSw HK1.out.lt; have k0 : wz.cell? ⟨gk, 0, none⟩ = some (.string xn) := hk.cell 0; have k1 : wz.cell? ⟨gk, 1, none⟩ = some (.string xs) := hk.cell 1; have k2 : wz.cell? ⟨gk, 2, none⟩ = some (.int .i64 xu) := hk.cell 2; have ht := HK0.out.on hSw; have k4 : wz.cell? ⟨w.heap.size, 4, none⟩ = some (.slice (some ⟨bb, o, none⟩) m ck) := ht.cell 4; have k5 := HPC.out wz ht.l; clear hk ht; go_simp; try (with_reducible rfl)
                try simp only [Act.put, List.setIfInBounds_toArray, List.set_cons_zero, List.set_cons_succ, List.getElem_toArray, List.getElem_cons_succ, List.getElem_cons_zero]
                refine take_at (some 95) (i := 27) (v := ?_) rfl rfl (by kernel_rfl) (by kernel_rfl) (by kernel_rfl) (fun _ _ _ h => h) (Or.inl ⟨by kernel_rfl, ?_⟩) hHeld ?_
                rotate_left
                · intro wz hSw; have hk := HK1.out.below hSw HK1.out.lt; have k0 : wz.cell? ⟨gk, 0, none⟩ = some (.string xn) := hk.cell 0; have k1 : wz.cell? ⟨gk, 1, none⟩ = some (.string xs) := hk.cell 1; have k2 : wz.cell? ⟨gk, 2, none⟩ = some (.int .i64 xu) := hk.cell 2; have ht := HK0.out.on hSw; have k4 : wz.cell? ⟨w.heap.size, 4, none⟩ = some (.slice (some ⟨bb, o, none⟩) m ck) := ht.cell 4; have k5 := HPC.out wz ht.l; clear hk ht; go_simp; try (with_reducible rfl)
                try simp only [Act.put, List.setIfInBounds_toArray, List.set_cons_zero, List.set_cons_succ, List.getElem_toArray, List.getElem_cons_succ, List.getElem_cons_zero]
                refine take_at (some 96) (i := 28) (v := ?_) rfl rfl (by kernel_rfl) (by kernel_rfl) (by kernel_rfl) (fun _ _ _ h => h) (Or.inl ⟨by kernel_rfl, ?_⟩) hHeld ?_
                rotate_left
                · intro wz hSw; have hk := HK1.out.below hSw HK1.out.lt; have k0 : wz.cell? ⟨gk, 0, none⟩ = some (.string xn) := hk.cell 0; have k1 : wz.cell? ⟨gk, 1, none⟩ = some (.string xs) := hk.cell 1; have k2 : wz.cell? ⟨gk, 2, none⟩ = some (.int .i64 xu) := hk.cell 2; have ht := HK0.out.on hSw; have k4 : wz.cell? ⟨w.heap.size, 4, none⟩ = some (.slice (some ⟨bb, o, none⟩) m ck) := ht.cell 4; have k5 := HPC.out wz ht.l; clear hk ht; go_simp; try (with_reducible rfl)
                try simp only [Act.put, List.setIfInBounds_toArray, List.set_cons_zero, List.set_cons_succ, List.getElem_toArray, List.getElem_cons_succ, List.getElem_cons_zero]
                refine take_at (some 97) (i := 29) (v := ?_) rfl rfl (by kernel_rfl) (by kernel_rfl) (by kernel_rfl) (fun _ _ _ h => h) (Or.inl ⟨by kernel_rfl, ?_⟩) hHeld ?_
                rotate_left
                · intro wz hSw; have hk := HK1.out.below hSw HK1.out.lt; have k0 : wz.cell? ⟨gk, 0, none⟩ = some (.string xn) := hk.cell 0; have k1 : wz.cell? ⟨gk, 1, none⟩ = some (.string xs) := hk.cell 1; have k2 : wz.cell? ⟨gk, 2, none⟩ = some (.int .i64 xu) := hk.cell 2; have ht := HK0.out.on hSw; have k4 : wz.cell? ⟨w.heap.size, 4, none⟩ = some (.slice (some ⟨bb, o, none⟩) m ck) := ht.cell 4; have k5 := HPC.out wz ht.l; clear hk ht; go_simp; try (with_reducible rfl)
                try simp only [Act.put, List.setIfInBounds_toArray, List.set_cons_zero, List.set_cons_succ, List.getElem_toArray, List.getElem_cons_succ, List.getElem_cons_zero]
                refine take_at (some 98) (i := 30) (v := ?_) rfl rfl (by kernel_rfl) (by kernel_rfl) (by kernel_rfl) (fun _ _ _ h => h) (Or.inl ⟨by kernel_rfl, ?_⟩) hHeld ?_
                rotate_left
                · intro wz hSw; go_simp; try (with_reducible rfl)
                try simp only [Act.put, List.setIfInBounds_toArray, List.set_cons_zero, List.set_cons_succ, List.getElem_toArray, List.getElem_cons_succ, List.getElem_cons_zero]
                refine take_at (some 99) (i := 31) (v := ?_) rfl rfl (by kernel_rfl) (by kernel_rfl) (by kernel_rfl) (fun _ _ _ h => h) (Or.inl ⟨by kernel_rfl, ?_⟩) hHeld ?_
                rotate_left
                · intro wz hSw; go_simp; try (with_reducible rfl)
                try simp only [Act.put, List.setIfInBounds_toArray, List.set_cons_zero, List.set_cons_succ, List.getElem_toArray, List.getElem_cons_succ, List.getElem_cons_zero]
                by_cases hu1 : (0 : Int) ≤ xu
                case neg =>
                  have hu2 : xu < 0 := by omega
                  have HTF := Lib.hid (HTN.out (by omega))
                  refine take_at (some 100) (i := 32) (v := ?_) rfl rfl (by kernel_rfl) (by kernel_rfl) (by kernel_rfl) (fun _ _ _ h => h) (Or.inl ⟨by kernel_rfl, ?_⟩) hHeld ?_
                  rotate_left
                  · intro wz hSw; have hk := HK1.out.below hSw HK1.out.lt; have k0 : wz.cell? ⟨gk, 0, none⟩ = some (.string xn) := hk.cell 0; have k1 : wz.cell? ⟨gk, 1, none⟩ = some (.string xs) := hk.cell 1; have k2 : wz.cell? ⟨gk, 2, none⟩ = some (.int .i64 xu) := hk.cell 2; have ht := HK0.out.on hSw; have k4 : wz.cell? ⟨w.heap.size, 4, none⟩ = some (.slice (some ⟨bb, o, none⟩) m ck) := ht.cell 4; have k5 := HPC.out wz ht.l; clear hk ht; go_simp; try (with_reducible rfl)
                  try simp only [Act.put, List.setIfInBounds_toArray, List.set_cons_zero, List.set_cons_succ, List.getElem_toArray, List.getElem_cons_succ, List.getElem_cons_zero]
                  refine take_at (some 101) (i := 33) (v := ?_) rfl rfl (by kernel_rfl) (by kernel_rfl) (by kernel_rfl) (fun _ _ _ h => h) (Or.inl ⟨by kernel_rfl, ?_⟩) hHeld ?_
                  rotate_left
                  · intro wz hSw; have hk := HK1.out.below hSw HK1.out.lt; have k0 : wz.cell? ⟨gk, 0, none⟩ = some (.string xn) := hk.cell 0; have k1 : wz.cell? ⟨gk, 1, none⟩ = some (.string xs) := hk.cell 1; have k2 : wz.cell? ⟨gk, 2, none⟩ = some (.int .i64 xu) := hk.cell 2; have ht := HK0.out.on hSw; have k4 : wz.cell? ⟨w.heap.size, 4, none⟩ = some (.slice (some ⟨bb, o, none⟩) m ck) := ht.cell 4; have k5 := HPC.out wz ht.l; clear hk ht; go_simp; try (with_reducible rfl)
                  try simp only [Act.put, List.setIfInBounds_toArray, List.set_cons_zero, List.set_cons_succ, List.getElem_toArray, List.getElem_cons_succ, List.getElem_cons_zero]
                  refine take_at (some 102) (i := 34) (v := ?_) rfl rfl (by kernel_rfl) (by kernel_rfl) (by kernel_rfl) (fun _ _ _ h => h) (Or.inl ⟨by kernel_rfl, ?_⟩) hHeld ?_
                  rotate_left
                  · intro wz hSw; have hk := HK1.out.below hSw HK1.out.lt; have k0 : wz.cell? ⟨gk, 0, none⟩ = some (.string xn) := hk.cell 0; have k1 : wz.cell? ⟨gk, 1, none⟩ = some (.string xs) := hk.cell 1; have k2 : wz.cell? ⟨gk, 2, none⟩ = some (.int .i64 xu) := hk.cell 2; have ht := HK0.out.on hSw; have k4 : wz.cell? ⟨w.heap.size, 4, none⟩ = some (.slice (some ⟨bb, o, none⟩) m ck) := ht.cell 4; have k5 := HPC.out wz ht.l; clear hk ht; go_simp; try (with_reducible rfl)
                  try simp only [Act.put, List.setIfInBounds_toArray, List.set_cons_zero, List.set_cons_succ, List.getElem_toArray, List.getElem_cons_succ, List.getElem_cons_zero]
                  refine take_at (some 103) (i := 35) (v := ?_) rfl rfl (by kernel_rfl) (by kernel_rfl) (by kernel_rfl) (fun _ _ _ h => h) (Or.inl ⟨by kernel_rfl, ?_⟩) hHeld ?_
                  rotate_left
                  · intro wz hSw; go_simp; try (with_reducible rfl)
                  try simp only [Act.put, List.setIfInBounds_toArray, List.set_cons_zero, List.set_cons_succ, List.getElem_toArray, List.getElem_cons_succ, List.getElem_cons_zero]
                  refine take_at (some 104) (i := 36) (v := ?_) rfl rfl (by kernel_rfl) (by kernel_rfl) (by kernel_rfl) (fun _ _ _ h => h) (Or.inl ⟨by kernel_rfl, ?_⟩) hHeld ?_
                  rotate_left
                  · intro wz hSw; go_simp; try (with_reducible rfl)
                  try simp only [Act.put, List.setIfInBounds_toArray, List.set_cons_zero, List.set_cons_succ, List.getElem_toArray, List.getElem_cons_succ, List.getElem_cons_zero]
                  refine take_at (some 105) (i := 37) (v := undef) rfl rfl (by kernel_rfl) (by kernel_rfl) (by kernel_rfl) (fun _ _ _ h => h) (Or.inr ⟨by kernel_rfl, rfl⟩) hHeld ?_
                  try simp only [Act.put, List.setIfInBounds_toArray, List.set_cons_zero, List.set_cons_succ, List.getElem_toArray, List.getElem_cons_succ, List.getElem_cons_zero]
                  refine take_at (some 106) (i := 38) (v := undef) rfl rfl (by kernel_rfl) (by kernel_rfl) (by kernel_rfl) (fun _ _ _ h => h) (Or.inr ⟨by kernel_rfl, rfl⟩) hHeld ?_
                  try simp only [Act.put, List.setIfInBounds_toArray, List.set_cons_zero, List.set_cons_succ, List.getElem_toArray, List.getElem_cons_succ, List.getElem_cons_zero]
                  refine take_at (some 107) (i := 39) (v := undef) rfl rfl (by kernel_rfl) (by kernel_rfl) (by kernel_rfl) (fun _ _ _ h => h) (Or.inr ⟨by kernel_rfl, rfl⟩) hHeld ?_
                  try simp only [Act.put, List.setIfInBounds_toArray, List.set_cons_zero, List.set_cons_succ, List.getElem_toArray, List.getElem_cons_succ, List.getElem_cons_zero]
                  refine take_at (some 108) (i := 40) (v := ?_) rfl rfl (by kernel_rfl) (by kernel_rfl) (by kernel_rfl) (fun _ _ _ h => h) (Or.inl ⟨by kernel_rfl, ?_⟩) hHeld ?_
                  rotate_left
                  · intro wz hSw; go_simp; try (with_reducible rfl)
                  try simp only [Act.put, List.setIfInBounds_toArray, List.set_cons_zero, List.set_cons_succ, List.getElem_toArray, List.getElem_cons_succ, List.getElem_cons_zero]
                  refine wpAnyH_done (by kernel_rfl) ?_ _
                  refine gen_qT (fun y => Below wn.heap.size wn y) hHeld (fun y hy => ?_)
                  clear hHeld
                  go_wp2
                  go_ret
                  exact ⟨by rw [HD.out, HST.out]; rw [HTF.out]; simp, (HK0.out.on hy).l⟩
                have hu2 : ¬ xu < 0 := by omega
                refine take_at (some 100) (i := 32) (v := ?_) rfl rfl (by kernel_rfl) (by kernel_rfl) (by kernel_rfl) (fun _ _ _ h => h) (Or.inl ⟨by kernel_rfl, ?_⟩) hHeld ?_
                rotate_left
                · intro wz hSw; have hk := HK1.out.below hSw HK1.out.lt; have k0 : wz.cell? ⟨gk, 0, none⟩ = some (.string xn) := hk.cell 0; have k1 : wz.cell? ⟨gk, 1, none⟩ = some (.string xs) := hk.cell 1; have k2 : wz.cell? ⟨gk, 2, none⟩ = some (.int .i64 xu) := hk.cell 2; have ht := HK0.out.on hSw; have k4 : wz.cell? ⟨w.heap.size, 4, none⟩ = some (.slice (some ⟨bb, o, none⟩) m ck) := ht.cell 4; have k5 := HPC.out wz ht.l; clear hk ht; go_simp; try (with_reducible rfl)
                try simp only [Act.put, List.setIfInBounds_toArray, List.set_cons_zero, List.set_cons_succ, List.getElem_toArray, List.getElem_cons_succ, List.getElem_cons_zero]
                refine take_at (some 101) (i := 33) (v := ?_) rfl rfl (by kernel_rfl) (by kernel_rfl) (by kernel_rfl) (fun _ _ _ h => h) (Or.inl ⟨by kernel_rfl, ?_⟩) hHeld ?_
                rotate_left
                · intro wz hSw; have hk := HK1.out.below hSw HK1.out.lt; have k0 : wz.cell? ⟨gk, 0, none⟩ = some (.string xn) := hk.cell 0; have k1 : wz.cell? ⟨gk, 1, none⟩ = some (.string xs) := hk.cell 1; have k2 : wz.cell? ⟨gk, 2, none⟩ = some (.int .i64 xu) := hk.cell 2; have ht := HK0.out.on hSw; have k4 : wz.cell? ⟨w.heap.size, 4, none⟩ = some (.slice (some ⟨bb, o, none⟩) m ck) := ht.cell 4; have k5 := HPC.out wz ht.l; clear hk ht; go_simp; try (with_reducible rfl)
                try simp only [Act.put, List.setIfInBounds_toArray, List.set_cons_zero, List.set_cons_succ, List.getElem_toArray, List.getElem_cons_succ, List.getElem_cons_zero]
                refine take_at (some 102) (i := 34) (v := ?_) rfl rfl (by kernel_rfl) (by kernel_rfl) (by kernel_rfl) (fun _ _ _ h => h) (Or.inl ⟨by kernel_rfl, ?_⟩) hHeld ?_
                rotate_left
                · intro wz hSw; have hk := HK1.out.below hSw HK1.out.lt; have k0 : wz.cell? ⟨gk, 0, none⟩ = some (.string xn) := hk.cell 0; have k1 : wz.cell? ⟨gk, 1, none⟩ = some (.string xs) := hk.cell 1; have k2 : wz.cell? ⟨gk, 2, none⟩ = some (.int .i64 xu) := hk.cell 2; have ht := HK0.out.on hSw; have k4 : wz.cell? ⟨w.heap.size, 4, none⟩ = some (.slice (some ⟨bb, o, none⟩) m ck) := ht.cell 4; have k5 := HPC.out wz ht.l; clear hk ht; go_simp; try (with_reducible rfl)
                try simp only [Act.put, List.setIfInBounds_toArray, List.set_cons_zero, List.set_cons_succ, List.getElem_toArray, List.getElem_cons_succ, List.getElem_cons_zero]
                refine take_at (some 103) (i := 35) (v := ?_) rfl rfl (by kernel_rfl) (by kernel_rfl) (by kernel_rfl) (fun _ _ _ h => h) (Or.inl ⟨by kernel_rfl, ?_⟩) hHeld ?_
                rotate_left
                · intro wz hSw; go_simp; try (with_reducible rfl)
                try simp only [Act.put, List.setIfInBounds_toArray, List.set_cons_zero, List.set_cons_succ, List.getElem_toArray, List.getElem_cons_succ, List.getElem_cons_zero]
                refine take_at (some 104) (i := 36) (v := ?_) rfl rfl (by kernel_rfl) (by kernel_rfl) (by kernel_rfl) (fun _ _ _ h => h) (Or.inl ⟨by kernel_rfl, ?_⟩) hHeld ?_
                rotate_left
                · intro wz hSw; go_simp; try (with_reducible rfl)
                try simp only [Act.put, List.setIfInBounds_toArray, List.set_cons_zero, List.set_cons_succ, List.getElem_toArray, List.getElem_cons_succ, List.getElem_cons_zero]
                by_cases hu3 : xu ≤ 1099511627776
                case neg =>
                  have hu4 : xu > 1099511627776 := by omega
                  have hu5 : (1099511627776 : Int) < xu := by omega
                  have HTF := Lib.hid (HTN.out (by omega))
                  refine take_at (some 105) (i := 37) (v := ?_) rfl rfl (by kernel_rfl) (by kernel_rfl) (by kernel_rfl) (fun _ _ _ h => h) (Or.inl ⟨by kernel_rfl, ?_⟩) hHeld ?_
                  rotate_left
                  · intro wz hSw; have hk := HK1.out.below hSw HK1.out.lt; have k0 : wz.cell? ⟨gk, 0, none⟩ = some (.string xn) := hk.cell 0; have k1 : wz.cell? ⟨gk, 1, none⟩ = some (.string xs) := hk.cell 1; have k2 : wz.cell? ⟨gk, 2, none⟩ = some (.int .i64 xu) := hk.cell 2; have ht := HK0.out.on hSw; have k4 : wz.cell? ⟨w.heap.size, 4, none⟩ = some (.slice (some ⟨bb, o, none⟩) m ck) := ht.cell 4; have k5 := HPC.out wz ht.l; clear hk ht; go_simp; try (with_reducible rfl)
                  try simp only [Act.put, List.setIfInBounds_toArray, List.set_cons_zero, List.set_cons_succ, List.getElem_toArray, List.getElem_cons_succ, List.getElem_cons_zero]
                  refine take_at (some 106) (i := 38) (v := ?_) rfl rfl (by kernel_rfl) (by kernel_rfl) (by kernel_rfl) (fun _ _ _ h => h) (Or.inl ⟨by kernel_rfl, ?_⟩) hHeld ?_
                  rotate_left
                  · intro wz hSw; have hk := HK1.out.below hSw HK1.out.lt; have k0 : wz.cell? ⟨gk, 0, none⟩ = some (.string xn) := hk.cell 0; have k1 : wz.cell? ⟨gk, 1, none⟩ = some (.string xs) := hk.cell 1; have k2 : wz.cell? ⟨gk, 2, none⟩ = some (.int .i64 xu) := hk.cell 2; have ht := HK0.out.on hSw; have k4 : wz.cell? ⟨w.heap.size, 4, none⟩ = some (.slice (some ⟨bb, o, none⟩) m ck) := ht.cell 4; have k5 := HPC.out wz ht.l; clear hk ht; go_simp; try (with_reducible rfl)
                  try simp only [Act.put, List.setIfInBounds_toArray, List.set_cons_zero, List.set_cons_succ, List.getElem_toArray, List.getElem_cons_succ, List.getElem_cons_zero]
                  refine take_at (some 107) (i := 39) (v := ?_) rfl rfl (by kernel_rfl) (by kernel_rfl) (by kernel_rfl) (fun _ _ _ h => h) (Or.inl ⟨by kernel_rfl, ?_⟩) hHeld ?_
                  rotate_left
                  · intro wz hSw; have hk := HK1.out.below hSw HK1.out.lt; have k0 : wz.cell? ⟨gk, 0, none⟩ = some (.string xn) := hk.cell 0; have k1 : wz.cell? ⟨gk, 1, none⟩ = some (.string xs) := hk.cell 1; have k2 : wz.cell? ⟨gk, 2, none⟩ = some (.int .i64 xu) := hk.cell 2; have ht := HK0.out.on hSw; have k4 : wz.cell? ⟨w.heap.size, 4, none⟩ = some (.slice (some ⟨bb, o, none⟩) m ck) := ht.cell 4; have k5 := HPC.out wz ht.l; clear hk ht; go_simp; try (with_reducible rfl)
                  try simp only [Act.put, List.setIfInBounds_toArray, List.set_cons_zero, List.set_cons_succ, List.getElem_toArray, List.getElem_cons_succ, List.getElem_cons_zero]
                  refine take_at (some 108) (i := 40) (v := ?_) rfl rfl (by kernel_rfl) (by kernel_rfl) (by kernel_rfl) (fun _ _ _ h => h) (Or.inl ⟨by kernel_rfl, ?_⟩) hHeld ?_
                  rotate_left
                  · intro wz hSw; go_simp; try (with_reducible rfl)
                  try simp only [Act.put, List.setIfInBounds_toArray, List.set_cons_zero, List.set_cons_succ, List.getElem_toArray, List.getElem_cons_succ, List.getElem_cons_zero]
                  refine wpAnyH_done (by kernel_rfl) ?_ _
                  refine gen_qT (fun y => Below wn.heap.size wn y) hHeld (fun y hy => ?_)
                  clear hHeld
                  go_wp2
                  go_ret
                  exact ⟨by rw [HD.out, HST.out]; rw [HTF.out]; simp, (HK0.out.on hy).l⟩
                have hu4 : ¬ xu > 1099511627776 := by omega
                have hu5 : ¬ (1099511627776 : Int) < xu := by omega
                have HTF := Lib.hid (HTY.out ⟨by omega, hs1, hu1, hu3⟩)
                refine take_at (some 105) (i := 37) (v := ?_) rfl rfl (by kernel_rfl) (by kernel_rfl) (by kernel_rfl) (fun _ _ _ h => h) (Or.inl ⟨by kernel_rfl, ?_⟩) hHeld ?_
                rotate_left
                · intro wz hSw; have hk := HK1.out.below hSw HK1.out.lt; have k0 : wz.cell? ⟨gk, 0, none⟩ = some (.string xn) := hk.cell 0; have k1 : wz.cell? ⟨gk, 1, none⟩ = some (.string xs) := hk.cell 1; have k2 : wz.cell? ⟨gk, 2, none⟩ = some (.int .i64 xu) := hk.cell 2; have ht := HK0.out.on hSw; have k4 : wz.cell? ⟨w.heap.size, 4, none⟩ = some (.slice (some ⟨bb, o, none⟩) m ck) := ht.cell 4; have k5 := HPC.out wz ht.l; clear hk ht; go_simp; try (with_reducible rfl)
                try simp only [Act.put, List.setIfInBounds_toArray, List.set_cons_zero, List.set_cons_succ, List.getElem_toArray, List.getElem_cons_succ, List.getElem_cons_zero]
                refine take_at (some 106) (i := 38) (v := ?_) rfl rfl (by kernel_rfl) (by kernel_rfl) (by kernel_rfl) (fun _ _ _ h => h) (Or.inl ⟨by kernel_rfl, ?_⟩) hHeld ?_
                rotate_left
                · intro wz hSw; have hk := HK1.out.below hSw HK1.out.lt; have k0 : wz.cell? ⟨gk, 0, none⟩ = some (.string xn) := hk.cell 0; have k1 : wz.cell? ⟨gk, 1, none⟩ = some (.string xs) := hk.cell 1; have k2 : wz.cell? ⟨gk, 2, none⟩ = some (.int .i64 xu) := hk.cell 2; have ht := HK0.out.on hSw; have k4 : wz.cell? ⟨w.heap.size, 4, none⟩ = some (.slice (some ⟨bb, o, none⟩) m ck) := ht.cell 4; have k5 := HPC.out wz ht.l; clear hk ht; go_simp; try (with_reducible rfl)
                try simp only [Act.put, List.setIfInBounds_toArray, List.set_cons_zero, List.set_cons_succ, List.getElem_toArray, List.getElem_cons_succ, List.getElem_cons_zero]
                refine take_at (some 107) (i := 39) (v := ?_) rfl rfl (by kernel_rfl) (by kernel_rfl) (by kernel_rfl) (fun _ _ _ h => h) (Or.inl ⟨by kernel_rfl, ?_⟩) hHeld ?_
                rotate_left
                · intro wz hSw; have hk := HK1.out.below hSw HK1.out.lt; have k0 : wz.cell? ⟨gk, 0, none⟩ = some (.string xn) := hk.cell 0; have k1 : wz.cell? ⟨gk, 1, none⟩ = some (.string xs) := hk.cell 1; have k2 : wz.cell? ⟨gk, 2, none⟩ = some (.int .i64 xu) := hk.cell 2; have ht := HK0.out.on hSw; have k4 : wz.cell? ⟨w.heap.size, 4, none⟩ = some (.slice (some ⟨bb, o, none⟩) m ck) := ht.cell 4; have k5 := HPC.out wz ht.l; clear hk ht; go_simp; try (with_reducible rfl)
                try simp only [Act.put, List.setIfInBounds_toArray, List.set_cons_zero, List.set_cons_succ, List.getElem_toArray, List.getElem_cons_succ, List.getElem_cons_zero]
                refine take_at (some 108) (i := 40) (v := ?_) rfl rfl (by kernel_rfl) (by kernel_rfl) (by kernel_rfl) (fun _ _ _ h => h) (Or.inl ⟨by kernel_rfl, ?_⟩) hHeld ?_
                rotate_left
                · intro wz hSw; go_simp; try (with_reducible rfl)
                try simp only [Act.put, List.setIfInBounds_toArray, List.set_cons_zero, List.set_cons_succ, List.getElem_toArray, List.getElem_cons_succ, List.getElem_cons_zero]
                refine wpAnyH_done (by kernel_rfl) ?_ _
                refine gen_qT (fun y => Below wn.heap.size wn y) hHeld (fun y hy => ?_)
                clear hHeld
                have HY := Lib.hid (HK0.out.on hy)
                go_wp2
                go_roundw
                case rel => exact ⟨i + 1, by omega, by go_num, Lib.hid (by rw [HNX.out, HD.out, HST.out]; rw [HTF.out, HZ.out]; rfl), HY⟩
                case measure => simp [intOf]; omega
          · have hi2 : ¬ (i : Int) < (m : Int) := by omega
            have HE := Lib.hid (show R2 = true by rw [HD.out, List.drop_eq_nil_of_le (by rw [HMM.out]; omega)]; rfl)
            go_wp2
            go_ret
            exact ⟨by rw [HE.out]; rfl, HB.out.l⟩
end Go.Proofs.YtekobdmlgbffnaaGreatDoor
