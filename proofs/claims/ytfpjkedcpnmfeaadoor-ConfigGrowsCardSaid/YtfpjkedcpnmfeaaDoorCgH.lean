/- The head of config's laws: its live question is always answered yes. -/
import Derived.Test.YtfpjkedcpnmfeaaDoorCgL5
import Derived.Test.YtfpjkedcpnmfeaaDoorCgT2
import Derived.Test.YtfpjkedcpnmfeaaDoorM14
namespace Go.Proofs.YtfpjkedcpnmfeaaDoor
set_option linter.unusedVariables false
set_option linter.unusedSimpArgs false
open Go.RowKit

/-! ### What is read of constants -/
def s0L : List UInt8 := [116, 105, 109, 101, 115, 32, 57, 32, 56, 32, 55, 32, 54, 10, 116, 101, 110, 97, 110, 116, 32, 97, 32, 50, 32, 51, 10, 110, 101, 116, 32, 49, 48, 46, 48].append [46, 48, 46, 48, 47, 56, 10, 116, 111, 107, 101, 110, 32, 107, 32, 48, 48, 102, 102, 32, 53, 10, 116, 101, 110, 97, 110, 116, 32, 98, 32, 48, 32, 48, 10]
def s1L : List UInt8 := [116, 105, 109, 101, 115, 32, 57, 32, 56, 32, 55, 32, 54, 10, 110, 101, 116, 32, 49, 48, 46, 48, 46, 48, 46, 48, 47, 56, 10]
def s2L : List UInt8 := [116, 105, 109, 101, 115, 32, 57, 32, 56, 32, 55, 32, 54, 10, 116, 101, 110, 97, 110, 116, 32, 98, 32, 49, 32, 49, 10, 116, 101, 110, 97, 110, 116, 32, 97, 32, 49, 32, 49, 10]
def t0a : Tn := ⟨bs [97], 2, 3, [⟨167772160, 8⟩], [⟨bs [107], bs [0, 255], 5⟩]⟩
def t0b : Tn := ⟨bs [98], 0, 0, [], []⟩
def c0G : Cg := ⟨9, 8, 7, 6, [t0a, t0b]⟩
theorem head_p0 : parseC (bs s0L) = .ok c0G := by kernel_rfl
theorem head_p1 : parseC (bs s1L) = .error 1 := by kernel_rfl
theorem head_p2 : parseC (bs s2L) = .error 2 := by kernel_rfl
theorem fT_of (s : ByteArray) (l : List Tv) : ((fT s l).getD zeroTv).t = ((l.map (·.t)).find? fun t => nmEq t.name s).getD zeroTn ∧ (fT s l).isSome = ((l.map (·.t)).find? fun t => nmEq t.name s).isSome := by
  unfold fT
  rw [List.find?_map]
  have : ((fun t : Tn => nmEq t.name s) ∘ fun x : Tv => x.t) = fun x : Tv => nmEq x.t.name s := rfl
  rw [this]
  cases l.find? (fun x : Tv => nmEq x.t.name s) <;> exact ⟨rfl, rfl⟩

/-- What Parse tells of a text of which a configuration is read. -/
theorem parE_get {s : ByteArray} {w w' : World} {e : Ending} {c : Cg} (h : PaE s w e w') (hs : s.size ≤ 4096) (hp : parseC s = .ok c) : Below w.heap.size w w' ∧ ∃ x : Cv, x.cg = c ∧ RC w' x ∧ e = .returned (.tuple #[.agg (ccs x), .int .i64 0, .int .i64 0]) := by
  obtain ⟨hb, h⟩ := h
  refine ⟨hb, ?_⟩
  rcases h with ⟨h, _⟩ | ⟨_, ⟨n, h, _⟩ | ⟨x, h, hr, he⟩⟩
  · omega
  · rw [hp] at h; cases h
  · rw [hp] at h
    injection h with h
    exact ⟨x, h.symm, hr, he⟩
theorem parE_err {s : ByteArray} {w w' : World} {e : Ending} {n : Nat} (h : PaE s w e w') (hs : s.size ≤ 4096) (hp : parseC s = .error n) : Below w.heap.size w w' ∧ e = .returned (.tuple #[.agg cz5, .int .i64 91, .int .i64 (n : Int)]) := by
  obtain ⟨hb, h⟩ := h
  refine ⟨hb, ?_⟩
  rcases h with ⟨h, _⟩ | ⟨_, ⟨m, h, he⟩ | ⟨x, h, _, _⟩⟩
  · omega
  · rw [hp] at h
    injection h with h
    rw [h]; exact he
  · rw [hp] at h; cases h

theorem head_get {u u' : World} {e : Ending} (h : PaE (bs s0L) u e u') : Below u.heap.size u u' ∧ ∃ (ts : List Tv) (A : Option Addr) (c : Nat), ts.map (·.t) = [t0a, t0b] ∧ RC u' ⟨9, 8, 7, 6, ts, A, c⟩ ∧ e = .returned (.tuple #[.agg #[.int .i64 9, .int .i64 8, .int .i64 7, .int .i64 6, .slice A 2 c], .int .i64 0, .int .i64 0]) := by
  obtain ⟨hb, ⟨a0, a1, a2, a3, ts, A, c⟩, hx, hr, he⟩ := parE_get h (by decide) head_p0
  refine ⟨hb, ts, A, c, ?_⟩
  unfold Cv.cg c0G at hx
  injection hx with x0 x1 x2 x3 x4
  subst x0; subst x1; subst x2; subst x3
  have hl : ts.length = 2 := by have := congrArg List.length x4; simpa using this
  refine ⟨x4, hr, ?_⟩
  rw [he]
  simp only [ccs, hl]
set_option maxRecDepth 100000 in
set_option maxHeartbeats 8000000 in
theorem chead_ok (u : World) : Calls Tryd.prog 8 #[] u fun e u' => e = .returned (.bool true) ∧ Below u.heap.size u u' := by
  go_enter Tryd.func8, Tryd.ntmps8
  go_upto_region 3 with (go_at_call 12; refine (cparse_ok _ _).mono ?_; rintro e u1 hpa; obtain ⟨hb1, ts, A, c, hts, hrc, rfl⟩ := head_get hpa; clear hpa)
  have HTS := Lib.hid hts
  have HRC := Lib.hid hrc
  have HB1 := Lib.hid hb1
  clear hts hrc hb1
  go_upto_region 4 with (go_at_call 12; refine (cparse_ok _ _).mono ?_; rintro e u2 hpa; obtain ⟨hb2, rfl⟩ := parE_err hpa (by decide) head_p1; clear hpa)
  have HB2 := Lib.hid hb2
  clear hb2
  go_upto_region 5 with (go_at_call 12; refine (cparse_ok _ _).mono ?_; rintro e u3 hpa; obtain ⟨hb3, rfl⟩ := parE_err hpa (by decide) head_p2; clear hpa)
  have HB3 := Lib.hid hb3
  clear hb3
  have HX := Lib.hid (show Bx u1 u1.heap.size 24 #[.int .i64 9, .int .i64 8, .int .i64 7, .int .i64 6, .slice A 2 c] (u3.alloc (.cells cz5 24)) from ((((Bx.new u1 _ _).on HB2.out).alloc1 (.cells cz5 24)).on HB3.out).alloc1 _)
  have hcg : Cv.cg ⟨9, 8, 7, 6, ts, A, c⟩ = c0G := by unfold Cv.cg c0G; rw [HTS.out]
  have HPR := Lib.hid (show ∀ v, Below u1.heap.size u1 v → Calls Tryd.prog 10 #[.agg #[.int .i64 9, .int .i64 8, .int .i64 7, .int .i64 6, .slice A 2 c]] v fun e w' => e = .returned (.string ⟨#[116, 105, 109, 101, 115, 32, 57, 32, 56, 32, 55, 32, 54, 10, 116, 101, 110, 97, 110, 116, 32, 97, 32, 50, 32, 51, 10, 110, 101, 116, 32, 49, 48, 46, 48, 46, 48, 46, 48, 47, 56, 10, 116, 111, 107, 101, 110, 32, 107, 32, 48, 48, 102, 102, 32, 53, 10, 116, 101, 110, 97, 110, 116, 32, 98, 32, 48, 32, 48, 10]⟩) ∧ Below v.heap.size v w' from fun v hv => by
    have h1 := print_ok ⟨9, 8, 7, 6, ts, A, c⟩ v (HRC.out.on hv)
    have h2 := (parse_isC (bs s0L) c0G head_p0).2
    rw [hcg, ← h2] at h1
    have hl : ts.length = 2 := by have := congrArg List.length HTS.out; simpa using this
    simp only [ccs, hl] at h1
    exact h1)
  have HRI := Lib.hid (show ∀ v, Below u1.heap.size u1 v → Calls Tryd.prog 11 #[.agg #[.int .i64 9, .int .i64 8, .int .i64 7, .int .i64 6, .slice A 2 c]] v fun e w' => e = .returned (.bool true) ∧ Below v.heap.size v w' from fun v hv => by
    have h1 := right_cfg ⟨9, 8, 7, 6, ts, A, c⟩ v (HRC.out.on hv)
    rw [hcg, (parse_isC (bs s0L) c0G head_p0).1] at h1
    have hl : ts.length = 2 := by have := congrArg List.length HTS.out; simpa using this
    simp only [ccs, hl] at h1
    exact h1)
  have HRZ := Lib.hid (show ∀ v, Calls Tryd.prog 11 #[.agg #[.int .i64 0, .int .i64 0, .int .i64 0, .int .i64 0, .slice none 0 0]] v fun e w' => e = .returned (.bool false) ∧ Below v.heap.size v w' from fun v =>
    right_cfg zeroCv v ⟨⟨.inl rfl, fun x hx => by cases hx⟩, ⟨Nat.le_refl _, by decide, fun _ => ⟨rfl, rfl⟩⟩⟩)
  have HFI := Lib.hid (show ∀ v, Below u1.heap.size u1 v → Calls Tryd.prog 14 #[.agg #[.int .i64 9, .int .i64 8, .int .i64 7, .int .i64 6, .slice A 2 c], .string ⟨#[97]⟩] v fun e w' => ∃ An cn Ak ck, e = .returned (.tuple #[.agg #[.string ⟨#[97]⟩, .int .i64 2, .int .i64 3, .slice An 1 cn, .slice Ak 1 ck], .bool true]) ∧ RT1 w' ⟨t0a, An, cn, Ak, ck⟩ ∧ Below v.heap.size v w' from fun v hv => by
    have h1 := find_cfg ⟨9, 8, 7, 6, ts, A, c⟩ (bs [97]) v (HRC.out.on hv) (fun y hy => by
      have hm : y.t ∈ [t0a, t0b] := by rw [← HTS.out]; exact List.mem_map.2 ⟨y, hy, rfl⟩
      simp only [List.mem_cons, List.not_mem_nil, or_false] at hm
      rcases hm with hm | hm <;> (rw [hm]; decide))
    have hl : ts.length = 2 := by have := congrArg List.length HTS.out; simpa using this
    obtain ⟨f1, f2⟩ := fT_of (bs [97]) ts
    rw [HTS.out] at f1 f2
    rw [show (([t0a, t0b].find? fun t => nmEq t.name (bs [97])).getD zeroTn) = t0a by kernel_rfl] at f1
    rw [show ([t0a, t0b].find? fun t => nmEq t.name (bs [97])).isSome = true by kernel_rfl] at f2
    simp only [ccs, hl, f1, f2] at h1
    refine h1.mono fun e w' hh => ?_
    obtain ⟨⟨t, An, cn, Ak, ck⟩, he, ht, hr, hb⟩ := hh
    simp only at ht
    subst ht
    exact ⟨An, cn, Ak, ck, he, hr, hb⟩)
  clear hcg HB2 HB3
  have e0 : (u3.alloc (.cells cz5 24)).cell? ⟨u1.heap.size, 0, none⟩ = some (.int .i64 9) := HX.out.cell 0
  have e1 : (u3.alloc (.cells cz5 24)).cell? ⟨u1.heap.size, 1, none⟩ = some (.int .i64 8) := HX.out.cell 1
  have e2 : (u3.alloc (.cells cz5 24)).cell? ⟨u1.heap.size, 2, none⟩ = some (.int .i64 7) := HX.out.cell 2
  have e3 : (u3.alloc (.cells cz5 24)).cell? ⟨u1.heap.size, 3, none⟩ = some (.int .i64 6) := HX.out.cell 3
  have e4 : (u3.alloc (.cells cz5 24)).cell? ⟨u1.heap.size, 4, none⟩ = some (.slice A 2 c) := HX.out.cell 4
  go_upto_region 6 with (go_at_call 14; refine (HFI.out _ HX.out.l).mono ?_; rintro e u4 ⟨An, cn, Ak, ck, rfl, hrt, hb4⟩)
  have HRT := Lib.hid hrt
  have HX4 := Lib.hid ((HX.out.on hb4).alloc1 (.cells #[.string ⟨#[97]⟩, .int .i64 2, .int .i64 3, .slice An 1 cn, .slice Ak 1 ck] 38))
  have HTO := Lib.hid (show ∀ v, Below u4.heap.size u4 v → Calls Tryd.prog 16 #[.agg #[.string ⟨#[97]⟩, .int .i64 2, .int .i64 3, .slice An 1 cn, .slice Ak 1 ck], .string ⟨#[107]⟩] v fun e w' => e = .returned (.tuple #[.agg #[.string ⟨#[107]⟩, .string ⟨#[0, 255]⟩, .int .i64 5], .bool true]) ∧ Below v.heap.size v w' from fun v hv => by
    have h1 := token_ok ⟨t0a, An, cn, Ak, ck⟩ (bs [107]) v (HRT.out.on hv)
    rw [show fK (bs [107]) (Tv.t ⟨t0a, An, cn, Ak, ck⟩).toks = some ⟨bs [107], bs [0, 255], 5⟩ by kernel_rfl] at h1
    exact h1)
  clear e0 e1 e2 e3 e4 hrt hb4
  go_upto_region 7 with (go_at_call 16; refine (HTO.out _ ((Below.refl _ _).alloc (Nat.le_refl _) _)).mono ?_; rintro e u5 ⟨rfl, hb5⟩)
  have HX5 := Lib.hid ((HX4.out.on hb5).alloc1 (.cells #[.string ⟨#[107]⟩, .string ⟨#[0, 255]⟩, .int .i64 5] 44))
  have HK5 := Lib.hid (show Bx u5 u5.heap.size 44 #[.string ⟨#[107]⟩, .string ⟨#[0, 255]⟩, .int .i64 5] (u5.alloc (.cells #[.string ⟨#[107]⟩, .string ⟨#[0, 255]⟩, .int .i64 5] 44)) from Bx.new u5 _ _)
  obtain ⟨v5, hv5⟩ : ∃ v, u5.alloc (.cells #[.string ⟨#[107]⟩, .string ⟨#[0, 255]⟩, .int .i64 5] 44) = v := ⟨_, rfl⟩
  rw [hv5] at HX5 HK5 ⊢
  obtain ⟨g5, hg5⟩ : ∃ g, u5.heap.size = g := ⟨_, rfl⟩
  rw [hg5] at HK5 ⊢
  obtain ⟨g1, hg1⟩ : ∃ g, u1.heap.size = g := ⟨_, rfl⟩
  have HG1 := Lib.hid hg1
  rw [hg1] at HX5 ⊢
  clear hv5 hb5 HTO HX4 HX HFI hg5 hg1
  have e0 : v5.cell? ⟨g1, 0, none⟩ = some (.int .i64 9) := HX5.out.cell 0
  have e1 : v5.cell? ⟨g1, 1, none⟩ = some (.int .i64 8) := HX5.out.cell 1
  have e2 : v5.cell? ⟨g1, 2, none⟩ = some (.int .i64 7) := HX5.out.cell 2
  have e3 : v5.cell? ⟨g1, 3, none⟩ = some (.int .i64 6) := HX5.out.cell 3
  have e4 : v5.cell? ⟨g1, 4, none⟩ = some (.slice A 2 c) := HX5.out.cell 4
  have HPR5 := Lib.hid (HPR.out v5 HX5.out.l)
  go_wp2_with (first
    | (go_at_call 10; (with_reducible refine HPR5.out.mono ?_); rintro e v6 ⟨rfl, hb⟩; have HX6 := Lib.hid (HX5.out.on hb); have HK6 := Lib.hid (HK5.out.on hb); clear hb e0 e1 e2 e3 e4; have e0 : v6.cell? ⟨g1, 0, none⟩ = some (.int .i64 9) := HX6.out.cell 0; have e1 : v6.cell? ⟨g1, 1, none⟩ = some (.int .i64 8) := HX6.out.cell 1; have e2 : v6.cell? ⟨g1, 2, none⟩ = some (.int .i64 7) := HX6.out.cell 2; have e3 : v6.cell? ⟨g1, 3, none⟩ = some (.int .i64 6) := HX6.out.cell 3; have e4 : v6.cell? ⟨g1, 4, none⟩ = some (.slice A 2 c) := HX6.out.cell 4; have d1 : v6.cell? ⟨g5, 1, none⟩ = some (.string ⟨#[0, 255]⟩) := HK6.out.cell 1; have d2 : v6.cell? ⟨g5, 2, none⟩ = some (.int .i64 5) := HK6.out.cell 2)
    | (go_at_call 11; (with_reducible refine (HRI.out _ HX6.out.l).mono ?_); rintro e v7 ⟨rfl, hb⟩; have HX7 := Lib.hid (HX6.out.on hb); clear hb)
    | (go_at_call 11; (with_reducible refine (HRZ.out _).mono ?_); rintro e v8 ⟨rfl, hb⟩; have HX8 := Lib.hid (HX7.out.on hb); clear hb))
  go_ret
  exact ⟨rfl, HB1.out.trans (HX8.out.l.mono (by have := HB1.out.size; omega))⟩
end Go.Proofs.YtfpjkedcpnmfeaaDoor
