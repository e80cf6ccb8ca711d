/- CgH, CgIn: texts of this seat, one behind the other. -/
import Derived.Test.YtekobdmlgbffnaaGreatDoorCgL5
import Derived.Test.YtekobdmlgbffnaaGreatDoorCgT2
import Derived.Test.YtekobdmlgbffnaaGreatDoorCg6
import Derived.Test.YtekobdmlgbffnaaGreatDoorG3
import Derived.ProofKit
import Derived.OpenShut
import Derived.ShutString
import Derived.Deep.Fields
import Derived.Deep.SlicePairs
import Derived.Deep.Strs
import Derived.SizedLaws
/- The head of config's laws: its live question is always answered yes. -/
namespace Go.Proofs.YtekobdmlgbffnaaGreatDoor
set_option linter.unusedVariables false
set_option maxRecDepth 100000
set_option linter.unusedSimpArgs false
open Go.RowKit

/-! ### What is read of constants -/
def s0L : List UInt8 := [116, 105, 109, 101, 115, 32, 57, 32, 56, 32, 55, 32, 54, 10, 116, 101, 110, 97, 110, 116, 32, 97, 32, 50, 32, 51, 10, 110, 101, 116, 32, 49, 48, 46, 48].append [46, 48, 46, 48, 47, 56, 10, 116, 111, 107, 101, 110, 32, 107, 32, 48, 48, 102, 102, 32, 53, 10, 116, 101, 110, 97, 110, 116, 32, 98, 32, 48, 32, 48, 10]
def s1L : List UInt8 := [116, 105, 109, 101, 115, 32, 57, 32, 56, 32, 55, 32, 54, 10, 110, 101, 116, 32, 49, 48, 46, 48, 46, 48, 46, 48, 47, 56, 10]
def s2L : List UInt8 := [116, 105, 109, 101, 115, 32, 57, 32, 56, 32, 55, 32, 54, 10, 116, 101, 110, 97, 110, 116, 32, 98, 32, 49, 32, 49, 10, 116, 101, 110, 97, 110, 116, 32, 97, 32, 49, 32, 49, 10]
def t0a : Tn := ⟨bs [97], 2, 3, [⟨167772160, 8⟩], [⟨bs [107], bs [0, 255], 5⟩]⟩
def t0b : Tn := ⟨bs [98], 0, 0, [], []⟩
def c0G : Cg := ⟨9, 8, 7, 6, [t0a, t0b]⟩
theorem head_p0 : parseC (bs s0L) = .ok c0G := by kernel_rfl
theorem head_p1 : parseC (bs s1L) = .error 1 := by kernel_rfl
theorem head_p2 : parseC (bs s2L) = .error 2 := by kernel_rfl
theorem fT_of (s : ByteArray) (l : List Tv) : ((fT s l).getD zeroTv).t = ((l.map (·.t)).find? fun t => nmEq t.name s).getD zeroTn ∧ (fT s l).isSome = ((l.map (·.t)).find? fun t => nmEq t.name s).isSome := by
  unfold fT
  rw [List.find?_map]
  have : ((fun t : Tn => nmEq t.name s) ∘ fun x : Tv => x.t) = fun x : Tv => nmEq x.t.name s := rfl
  rw [this]
  cases l.find? (fun x : Tv => nmEq x.t.name s) <;> exact ⟨rfl, rfl⟩

/-- What Parse tells of a text of which a configuration is read. -/
theorem parE_get {s : ByteArray} {w w' : World} {e : Ending} {c : Cg} (h : PaE s w e w') (hs : s.size ≤ 4096) (hp : parseC s = .ok c) : Below w.heap.size w w' ∧ ∃ x : Cv, x.cg = c ∧ RC w' x ∧ e = .returned (.tuple #[.agg (ccs x), .int .i64 0, .int .i64 0]) := by
  obtain ⟨hb, h⟩ := h
  refine ⟨hb, ?_⟩
  rcases h with ⟨h, _⟩ | ⟨_, ⟨n, h, _⟩ | ⟨x, h, hr, he⟩⟩
  · omega
  · rw [hp] at h; cases h
  · rw [hp] at h
    injection h with h
    exact ⟨x, h.symm, hr, he⟩
theorem parE_err {s : ByteArray} {w w' : World} {e : Ending} {n : Nat} (h : PaE s w e w') (hs : s.size ≤ 4096) (hp : parseC s = .error n) : Below w.heap.size w w' ∧ e = .returned (.tuple #[.agg cz5, .int .i64 91, .int .i64 (n : Int)]) := by
  obtain ⟨hb, h⟩ := h
  refine ⟨hb, ?_⟩
  rcases h with ⟨h, _⟩ | ⟨_, ⟨m, h, he⟩ | ⟨x, h, _, _⟩⟩
  · omega
  · rw [hp] at h
    injection h with h
    rw [h]; exact he
  · rw [hp] at h; cases h

theorem head_get {u u' : World} {e : Ending} (h : PaE (bs s0L) u e u') : Below u.heap.size u u' ∧ ∃ (ts : List Tv) (A : Option Addr) (c : Nat), ts.map (·.t) = [t0a, t0b] ∧ RC u' ⟨9, 8, 7, 6, ts, A, c⟩ ∧ e = .returned (.tuple #[.agg #[.int .i64 9, .int .i64 8, .int .i64 7, .int .i64 6, .slice A 2 c], .int .i64 0, .int .i64 0]) := by
  obtain ⟨hb, ⟨a0, a1, a2, a3, ts, A, c⟩, hx, hr, he⟩ := parE_get h (by decide) head_p0
  refine ⟨hb, ts, A, c, ?_⟩
  unfold Cv.cg c0G at hx
  injection hx with x0 x1 x2 x3 x4
  subst x0; subst x1; subst x2; subst x3
  have hl : ts.length = 2 := by have := congrArg List.length x4; simpa using this
  refine ⟨x4, hr, ?_⟩
  rw [he]
  simp only [ccs, hl]
set_option maxRecDepth 100000 in
set_option maxHeartbeats 8000000 in
theorem chead_ok (u : World) : Calls Tryz.prog 5 #[] u fun e u' => e = .returned (.bool true) ∧ Below u.heap.size u u' := by
  go_enter Tryz.func5, Tryz.ntmps5
  go_upto_region 3 with (go_at_call 7; refine (cparse_ok _ _).mono ?_; rintro e u1 hpa; obtain ⟨hb1, ts, A, c, hts, hrc, rfl⟩ := head_get hpa; clear hpa)
  have HTS := Lib.hid hts
  have HRC := Lib.hid hrc
  have HB1 := Lib.hid hb1
  clear hts hrc hb1
  go_upto_region 4 with (go_at_call 7; refine (cparse_ok _ _).mono ?_; rintro e u2 hpa; obtain ⟨hb2, rfl⟩ := parE_err hpa (by decide) head_p1; clear hpa)
  have HB2 := Lib.hid hb2
  clear hb2
  go_upto_region 5 with (go_at_call 7; refine (cparse_ok _ _).mono ?_; rintro e u3 hpa; obtain ⟨hb3, rfl⟩ := parE_err hpa (by decide) head_p2; clear hpa)
  have HB3 := Lib.hid hb3
  clear hb3
  have HX := Lib.hid (show Bx u1 u1.heap.size 24 #[.int .i64 9, .int .i64 8, .int .i64 7, .int .i64 6, .slice A 2 c] (u3.alloc (.cells cz5 24)) from ((((Bx.new u1 _ _).on HB2.out).alloc1 (.cells cz5 24)).on HB3.out).alloc1 _)
  have hcg : Cv.cg ⟨9, 8, 7, 6, ts, A, c⟩ = c0G := by unfold Cv.cg c0G; rw [HTS.out]
  have HPR := Lib.hid (show ∀ v, Below u1.heap.size u1 v → Calls Tryz.prog 15 #[.agg #[.int .i64 9, .int .i64 8, .int .i64 7, .int .i64 6, .slice A 2 c]] v fun e w' => e = .returned (.string ⟨#[116, 105, 109, 101, 115, 32, 57, 32, 56, 32, 55, 32, 54, 10, 116, 101, 110, 97, 110, 116, 32, 97, 32, 50, 32, 51, 10, 110, 101, 116, 32, 49, 48, 46, 48, 46, 48, 46, 48, 47, 56, 10, 116, 111, 107, 101, 110, 32, 107, 32, 48, 48, 102, 102, 32, 53, 10, 116, 101, 110, 97, 110, 116, 32, 98, 32, 48, 32, 48, 10]⟩) ∧ Below v.heap.size v w' from fun v hv => by
    have h1 := print_ok ⟨9, 8, 7, 6, ts, A, c⟩ v (HRC.out.on hv)
    have h2 := (parse_isC (bs s0L) c0G head_p0).2
    rw [hcg, ← h2] at h1
    have hl : ts.length = 2 := by have := congrArg List.length HTS.out; simpa using this
    simp only [ccs, hl] at h1
    exact h1)
  have HRI := Lib.hid (show ∀ v, Below u1.heap.size u1 v → Calls Tryz.prog 13 #[.agg #[.int .i64 9, .int .i64 8, .int .i64 7, .int .i64 6, .slice A 2 c]] v fun e w' => e = .returned (.bool true) ∧ Below v.heap.size v w' from fun v hv => by
    have h1 := right_cfg ⟨9, 8, 7, 6, ts, A, c⟩ v (HRC.out.on hv)
    rw [hcg, (parse_isC (bs s0L) c0G head_p0).1] at h1
    have hl : ts.length = 2 := by have := congrArg List.length HTS.out; simpa using this
    simp only [ccs, hl] at h1
    exact h1)
  have HRZ := Lib.hid (show ∀ v, Calls Tryz.prog 13 #[.agg #[.int .i64 0, .int .i64 0, .int .i64 0, .int .i64 0, .slice none 0 0]] v fun e w' => e = .returned (.bool false) ∧ Below v.heap.size v w' from fun v =>
    right_cfg zeroCv v ⟨⟨.inl rfl, fun x hx => by cases hx⟩, ⟨Nat.le_refl _, by decide, fun _ => ⟨rfl, rfl⟩⟩⟩)
  have HFI := Lib.hid (show ∀ v, Below u1.heap.size u1 v → Calls Tryz.prog 9 #[.agg #[.int .i64 9, .int .i64 8, .int .i64 7, .int .i64 6, .slice A 2 c], .string ⟨#[97]⟩] v fun e w' => ∃ An cn Ak ck, e = .returned (.tuple #[.agg #[.string ⟨#[97]⟩, .int .i64 2, .int .i64 3, .slice An 1 cn, .slice Ak 1 ck], .bool true]) ∧ RT1 w' ⟨t0a, An, cn, Ak, ck⟩ ∧ Below v.heap.size v w' from fun v hv => by
    have h1 := find_cfg ⟨9, 8, 7, 6, ts, A, c⟩ (bs [97]) v (HRC.out.on hv) (fun y hy => by
      have hm : y.t ∈ [t0a, t0b] := by rw [← HTS.out]; exact List.mem_map.2 ⟨y, hy, rfl⟩
      simp only [List.mem_cons, List.not_mem_nil, or_false] at hm
      rcases hm with hm | hm <;> (rw [hm]; decide))
    have hl : ts.length = 2 := by have := congrArg List.length HTS.out; simpa using this
    obtain ⟨f1, f2⟩ := fT_of (bs [97]) ts
    rw [HTS.out] at f1 f2
    rw [show (([t0a, t0b].find? fun t => nmEq t.name (bs [97])).getD zeroTn) = t0a by kernel_rfl] at f1
    rw [show ([t0a, t0b].find? fun t => nmEq t.name (bs [97])).isSome = true by kernel_rfl] at f2
    simp only [ccs, hl, f1, f2] at h1
    refine h1.mono fun e w' hh => ?_
    obtain ⟨⟨t, An, cn, Ak, ck⟩, he, ht, hr, hb⟩ := hh
    simp only at ht
    subst ht
    exact ⟨An, cn, Ak, ck, he, hr, hb⟩)
  clear hcg HB2 HB3
  have e0 : (u3.alloc (.cells cz5 24)).cell? ⟨u1.heap.size, 0, none⟩ = some (.int .i64 9) := HX.out.cell 0
  have e1 : (u3.alloc (.cells cz5 24)).cell? ⟨u1.heap.size, 1, none⟩ = some (.int .i64 8) := HX.out.cell 1
  have e2 : (u3.alloc (.cells cz5 24)).cell? ⟨u1.heap.size, 2, none⟩ = some (.int .i64 7) := HX.out.cell 2
  have e3 : (u3.alloc (.cells cz5 24)).cell? ⟨u1.heap.size, 3, none⟩ = some (.int .i64 6) := HX.out.cell 3
  have e4 : (u3.alloc (.cells cz5 24)).cell? ⟨u1.heap.size, 4, none⟩ = some (.slice A 2 c) := HX.out.cell 4
  go_upto_region 6 with (go_at_call 9; refine (HFI.out _ HX.out.l).mono ?_; rintro e u4 ⟨An, cn, Ak, ck, rfl, hrt, hb4⟩)
  have HRT := Lib.hid hrt
  have HX4 := Lib.hid ((HX.out.on hb4).alloc1 (.cells #[.string ⟨#[97]⟩, .int .i64 2, .int .i64 3, .slice An 1 cn, .slice Ak 1 ck] 33))
  have HTO := Lib.hid (show ∀ v, Below u4.heap.size u4 v → Calls Tryz.prog 11 #[.agg #[.string ⟨#[97]⟩, .int .i64 2, .int .i64 3, .slice An 1 cn, .slice Ak 1 ck], .string ⟨#[107]⟩] v fun e w' => e = .returned (.tuple #[.agg #[.string ⟨#[107]⟩, .string ⟨#[0, 255]⟩, .int .i64 5], .bool true]) ∧ Below v.heap.size v w' from fun v hv => by
    have h1 := token_ok ⟨t0a, An, cn, Ak, ck⟩ (bs [107]) v (HRT.out.on hv)
    rw [show fK (bs [107]) (Tv.t ⟨t0a, An, cn, Ak, ck⟩).toks = some ⟨bs [107], bs [0, 255], 5⟩ by kernel_rfl] at h1
    exact h1)
  clear e0 e1 e2 e3 e4 hrt hb4
  go_upto_region 7 with (go_at_call 11; refine (HTO.out _ ((Below.refl _ _).alloc (Nat.le_refl _) _)).mono ?_; rintro e u5 ⟨rfl, hb5⟩)
  have HX5 := Lib.hid ((HX4.out.on hb5).alloc1 (.cells #[.string ⟨#[107]⟩, .string ⟨#[0, 255]⟩, .int .i64 5] 37))
  have HK5 := Lib.hid (show Bx u5 u5.heap.size 37 #[.string ⟨#[107]⟩, .string ⟨#[0, 255]⟩, .int .i64 5] (u5.alloc (.cells #[.string ⟨#[107]⟩, .string ⟨#[0, 255]⟩, .int .i64 5] 37)) from Bx.new u5 _ _)
  obtain ⟨v5, hv5⟩ : ∃ v, u5.alloc (.cells #[.string ⟨#[107]⟩, .string ⟨#[0, 255]⟩, .int .i64 5] 37) = v := ⟨_, rfl⟩
  rw [hv5] at HX5 HK5 ⊢
  obtain ⟨g5, hg5⟩ : ∃ g, u5.heap.size = g := ⟨_, rfl⟩
  rw [hg5] at HK5 ⊢
  obtain ⟨g1, hg1⟩ : ∃ g, u1.heap.size = g := ⟨_, rfl⟩
  have HG1 := Lib.hid hg1
  rw [hg1] at HX5 ⊢
  clear hv5 hb5 HTO HX4 HX HFI hg5 hg1
  have e0 : v5.cell? ⟨g1, 0, none⟩ = some (.int .i64 9) := HX5.out.cell 0
  have e1 : v5.cell? ⟨g1, 1, none⟩ = some (.int .i64 8) := HX5.out.cell 1
  have e2 : v5.cell? ⟨g1, 2, none⟩ = some (.int .i64 7) := HX5.out.cell 2
  have e3 : v5.cell? ⟨g1, 3, none⟩ = some (.int .i64 6) := HX5.out.cell 3
  have e4 : v5.cell? ⟨g1, 4, none⟩ = some (.slice A 2 c) := HX5.out.cell 4
  have HPR5 := Lib.hid (HPR.out v5 HX5.out.l)
  go_wp2_with (first
    | (go_at_call 15; (with_reducible refine HPR5.out.mono ?_); rintro e v6 ⟨rfl, hb⟩; have HX6 := Lib.hid (HX5.out.on hb); have HK6 := Lib.hid (HK5.out.on hb); clear hb e0 e1 e2 e3 e4; have e0 : v6.cell? ⟨g1, 0, none⟩ = some (.int .i64 9) := HX6.out.cell 0; have e1 : v6.cell? ⟨g1, 1, none⟩ = some (.int .i64 8) := HX6.out.cell 1; have e2 : v6.cell? ⟨g1, 2, none⟩ = some (.int .i64 7) := HX6.out.cell 2; have e3 : v6.cell? ⟨g1, 3, none⟩ = some (.int .i64 6) := HX6.out.cell 3; have e4 : v6.cell? ⟨g1, 4, none⟩ = some (.slice A 2 c) := HX6.out.cell 4; have d1 : v6.cell? ⟨g5, 1, none⟩ = some (.string ⟨#[0, 255]⟩) := HK6.out.cell 1; have d2 : v6.cell? ⟨g5, 2, none⟩ = some (.int .i64 5) := HK6.out.cell 2)
    | (go_at_call 13; (with_reducible refine (HRI.out _ HX6.out.l).mono ?_); rintro e v7 ⟨rfl, hb⟩; have HX7 := Lib.hid (HX6.out.on hb); clear hb)
    | (go_at_call 13; (with_reducible refine (HRZ.out _).mono ?_); rintro e v8 ⟨rfl, hb⟩; have HX8 := Lib.hid (HX7.out.on hb); clear hb))
  go_ret
  exact ⟨rfl, HB1.out.trans (HX8.out.l.mono (by have := HB1.out.size; omega))⟩
end Go.Proofs.YtekobdmlgbffnaaGreatDoor

/- A configuration that came in, by value: from the row's reading to 'RC', with bounds out of the row's reach. -/
namespace Go.Proofs.YtekobdmlgbffnaaGreatDoor
set_option linter.unusedVariables false
set_option maxRecDepth 100000
set_option linter.unusedSimpArgs false
open Go.ChangeShapes Go.WideShapes Go.ChangeAt Go.RowKit Go.Deep

section
variable {H : Type} {enc : TypeId × Value → H} {P : Program} {W : World} {t e : TypeId}

/-- Every weight of it is within the reach. -/
def Wt (P : Program) (t : TypeId) (d : DataW H) : Prop := ∀ n ∈ d.weights P t, n ≤ reachBytes
theorem wt_all : ∀ (l : List (DataW H)), (∀ n ∈ DataW.weightsAll P e l, n ≤ reachBytes) → ∀ x ∈ l, Wt P e x
  | [], _, _, h => by cases h
  | d :: r, h, x, hx => by
    simp only [DataW.weightsAll, List.mem_append] at h
    rcases List.mem_cons.1 hx with hx | hx
    · subst hx; exact fun n hn => h n (.inl hn)
    · exact wt_all r (fun n hn => h n (.inr hn)) x hx
theorem Wt.slice {el sp : List (DataW H)} (hu : P.underlying t = some (.slice e)) (h : Wt P t (.slice el sp)) : el.length * P.bytesOf e ≤ reachBytes ∧ ∀ x ∈ el, Wt P e x := by
  unfold Wt at h
  simp only [DataW.weights, hu] at h
  refine ⟨?_, wt_all el fun n hn => h n (by simp [hn])⟩
  have := h ((el.length + sp.length) * P.bytesOf e) (by simp)
  exact Nat.le_trans (Nat.mul_le_mul_right _ (Nat.le_add_right _ _)) this
theorem Wt.part {fs : Array Field} {parts : List (DataW H)} (hu : P.underlying t = some (.struct fs)) (h : Wt P t (.agg parts)) {j : Nat} {f : Field} {d : DataW H} (hf : fs[j]? = some f) (hd : parts[j]? = some d) : Wt P f.type d := fun n hn => by
  unfold Wt at h
  simp only [DataW.weights, hu] at h
  exact h n (DataW.weights_mem_each (j := j) (t := f.type) (d := d) (by simp [hf]) hd n hn)

theorem open_each {fs : Array Field} {A : Option Addr} {n c k : Nat} {y : DataW H × List MemPlace} {fuel : Nat} (ht : P.underlying t = some (.slice e)) (he : P.underlying e = some (.struct fs)) (ce : P.cellsOf e = k) (h1 : 1 ≤ P.bytesOf e)
    (h : DataW.trod enc P W 0 (fun _ => true) true fuel t [.slice A n c] = some y) (hw : Wt P t y.1) :
    (A = none ∧ n = 0 ∧ c = 0) ∨ ∃ a, A = some a ∧ n ≤ c ∧ c ≤ maxLen ∧ n ≤ reachBytes ∧ ∀ i, i < n → ∃ cs fuel' z, cs.length = k ∧ (∀ j, (hj : j < cs.length) → W.cell? (a.add (i * k + j)) = some cs[j]) ∧ DataW.trod enc P W 0 (fun _ => true) true fuel' e cs = some z ∧ Wt P e z.1 := by
  rcases open_slice ht h with ⟨hcs, _⟩ | ⟨a, len, cap, m, k', D, Pl, hcs, _, hl, hm, hmm, hy, hx⟩
  · left
    simpa using hcs
  · right
    simp only [List.cons.injEq, Value.slice.injEq, and_true] at hcs
    obtain ⟨rfl, rfl, rfl⟩ := hcs
    simp only [if_true] at hmm
    subst hmm
    subst hy
    obtain ⟨w1, w2⟩ := Wt.slice ht hw
    rw [List.length_map, List.length_range] at w1
    refine ⟨a, rfl, hl, hm, Nat.le_trans (Nat.le_mul_of_pos_right _ h1) w1, fun i hi => ?_⟩
    obtain ⟨cs', g1, g2⟩ := hx i (by omega)
    rw [ce] at g1
    obtain ⟨_, hlen, hcell⟩ := World.cells?_some g1
    refine ⟨cs', k', _, hlen, fun j hj => ?_, g2, w2 _ (List.mem_map.2 ⟨i, List.mem_range.2 hi, rfl⟩)⟩
    have := hcell j (by omega)
    rw [Go.Deep.add_add] at this
    rw [this]
    exact List.getElem?_eq_getElem hj
theorem open_field {fs : Array Field} {cs : List Value} {y : DataW H × List MemPlace} {fuel : Nat} (he : P.underlying e = some (.struct fs)) (hone : oneCellFields P fs = true) (h : DataW.trod enc P W 0 (fun _ => true) true fuel e cs = some y) (hw : Wt P e y.1)
    (i : Nat) (f : Field) (hf : fs[i]? = some f) (v : Value) (hv : cs[i]? = some v) : ∃ n z, DataW.trod enc P W 0 (fun _ => true) true n f.type [v] = some z ∧ Wt P f.type z.1 := by
  obtain ⟨xs, n, _, hx, _, hlen, hg⟩ := DataW.trod_struct he h
  subst hx
  obtain ⟨ho, hk⟩ := hone_of hone i f hf
  have hi : i < fs.size := (Array.getElem?_eq_some_iff.1 hf).1
  have h1 := hg i f hf
  have hil : i < cs.length := (List.getElem?_eq_some_iff.1 hv).1
  have e1 : (cs.drop i).take 1 = [v] := by
    rw [List.drop_eq_getElem_cons hil]
    have : cs[i] = v := (List.getElem?_eq_some_iff.1 hv).2
    rw [this]; rfl
  rw [ho, hk, e1] at h1
  refine ⟨n, xs[i]'(by omega), h1.trans (List.getElem?_eq_getElem (by omega)), Wt.part he hw hf ?_⟩
  rw [List.getElem?_map, List.getElem?_eq_getElem (by omega)]; rfl
theorem open_str {v : Value} {n : Nat} {z : DataW H × List MemPlace} (hu : P.underlying t = some .string) (h : DataW.trod enc P W 0 (fun _ => true) true n t [v] = some z) (hw : Wt P t z.1) : ∃ s : ByteArray, v = .string s ∧ s.size ≤ 140737488355328 := by
  obtain ⟨s, q, hz, _⟩ := DataW.trod_string hu h
  refine ⟨s, by simpa using q, ?_⟩
  rw [hz] at hw
  have h1 : s.data.toList.length ≤ reachBytes := hw _ (by simp [DataW.weights])
  have h2 : reachBytes < 140737488355328 := reachBytes_lt
  have h3 : s.data.toList.length = s.size := rfl
  omega
theorem open_num {v : Value} {n : Nat} {k : IntKind} {z : DataW H × List MemPlace} (hu : P.underlying t = some (.int k)) (h : DataW.trod enc P W 0 (fun _ => true) true n t [v] = some z) : ∃ a : Int, v = .int k a ∧ (Lit.int k a).wf = true := by
  obtain ⟨a, q, _, w⟩ := DataW.trod_int hu h
  exact ⟨a, by simpa using q, w⟩
theorem open_slice_of {v : Value} {n : Nat} {z : DataW H × List MemPlace} (hu : P.underlying t = some (.slice e)) (h : DataW.trod enc P W 0 (fun _ => true) true n t [v] = some z) : ∃ A m c, v = .slice A m c := by
  rcases open_slice hu h with ⟨hcs, _⟩ | ⟨a, len, cap, m, k', D, Pl, hcs, _⟩
  · exact ⟨none, 0, 0, by simpa using hcs⟩
  · exact ⟨some a, len, cap, by simpa using hcs⟩
end

theorem lit_u32 {a : Int} (h : (Lit.int .u32 a).wf = true) : 0 ≤ a ∧ a < 4294967296 := by
  have hmin : IntKind.u32.min = 0 := by decide
  have hmax : IntKind.u32.max = 4294967295 := by decide
  simp only [Lit.wf, Bool.and_eq_true, decide_eq_true_eq, hmin, hmax] at h
  omega
/-- The rows of a slice, out of what each place reads as. -/
theorem rw_of {β : Type} [Inhabited β] {W : World} {k : Nat} (hk : 0 < k) {f : β → Array Value} {A : Option Addr} {n c : Nat} {p : β → Prop} {R : Nat}
    (h : (A = none ∧ n = 0 ∧ c = 0) ∨ ∃ a, A = some a ∧ n ≤ c ∧ c ≤ maxLen ∧ n ≤ R ∧ ∀ i, i < n → ∃ x : β, p x ∧ ∀ j, j < k → W.cell? (a.add (i * k + j)) = (f x)[j]?)
    (hf : ∀ x, (f x).size = k) : ∃ l : List β, l.length = n ∧ Rw k f W A l ∧ Fit A l.length c ∧ n ≤ R ∧ ∀ x ∈ l, p x := by
  rcases h with ⟨rfl, rfl, rfl⟩ | ⟨a, rfl, hl, hm, hr, hx⟩
  · exact ⟨[], rfl, .inl rfl, ⟨by simp, by omega, fun _ => ⟨rfl, rfl⟩⟩, Nat.zero_le _, fun x hx => by cases hx⟩
  · obtain ⟨F, hF⟩ := Go.Deep.choose_lt hx
    unfold maxLen at hm
    refine ⟨(List.range n).map F, by simp, ?_, ⟨by simpa using hl, by omega, fun h => by cases h⟩, hr, fun x hx => ?_⟩
    · by_cases hn : n = 0
      · left; rw [hn]; rfl
      · right
        obtain ⟨b, o, spot⟩ := a
        obtain ⟨_, h0⟩ := hF 0 (by omega)
        have h00 := h0 0 hk
        rw [Array.getElem?_eq_getElem (by rw [hf]; exact hk)] at h00
        have hspot : spot = none := by simpa [Addr.add] using World.cell?_spot h00
        subst hspot
        refine ⟨b, o, rfl, ?_, fun i hi j hj => ?_⟩
        · have := World.block_lt_of_cell? W _ h00
          rw [add_plain] at this
          exact this
        · have hi' : i < n := by simpa using hi
          have e : ((List.range n).map F)[i] = F i := by simp
          rw [e]
          have := (hF i hi').2 j hj
          rw [add_plain] at this
          rw [Nat.add_assoc]
          exact this
    · obtain ⟨i, hi, rfl⟩ := List.mem_map.1 hx
      exact (hF i (List.mem_range.1 hi)).1

instance : Inhabited Nt := ⟨⟨0, 0⟩⟩
instance : Inhabited Tk := ⟨⟨ByteArray.empty, ByteArray.empty, 0⟩⟩
instance : Inhabited Tv := ⟨⟨⟨ByteArray.empty, 0, 0, [], []⟩, none, 0, none, 0⟩⟩

theorem net_fields : ∃ f0 f1, Tryz.prog.underlying 85 = some (.struct #[f0, f1]) ∧ f0.type = 83 ∧ f1.type = 3 ∧ oneCellFields Tryz.prog #[f0, f1] = true := ⟨_, _, Tryz.underlying85, rfl, rfl, by kernel_rfl⟩
theorem tok_fields : ∃ f0 f1 f2, Tryz.prog.underlying 37 = some (.struct #[f0, f1, f2]) ∧ f0.type = 9 ∧ f1.type = 9 ∧ f2.type = 2 ∧ oneCellFields Tryz.prog #[f0, f1, f2] = true := ⟨_, _, _, Tryz.underlying37, rfl, rfl, rfl, by kernel_rfl⟩
theorem ten_fields : ∃ f0 f1 f2 f3 f4, Tryz.prog.underlying 33 = some (.struct #[f0, f1, f2, f3, f4]) ∧ f0.type = 9 ∧ f1.type = 3 ∧ f2.type = 3 ∧ f3.type = 30 ∧ f4.type = 31 ∧ oneCellFields Tryz.prog #[f0, f1, f2, f3, f4] = true := ⟨_, _, _, _, _, Tryz.underlying33, rfl, rfl, rfl, rfl, rfl, by kernel_rfl⟩
theorem cfg_fields : ∃ f0 f1 f2 f3 f4, Tryz.prog.underlying 24 = some (.struct #[f0, f1, f2, f3, f4]) ∧ f0.type = 2 ∧ f1.type = 2 ∧ f2.type = 2 ∧ f3.type = 2 ∧ f4.type = 22 ∧ oneCellFields Tryz.prog #[f0, f1, f2, f3, f4] = true := ⟨_, _, _, _, _, Tryz.underlying24, rfl, rfl, rfl, rfl, rfl, by kernel_rfl⟩

theorem five {cs : List Value} (h : cs.length = 5) : ∃ a b c d e, cs = [a, b, c, d, e] := by
  match cs, h with
  | [a, b, c, d, e], _ => exact ⟨a, b, c, d, e, rfl⟩

section
variable {H : Type} {enc : TypeId × Value → H} {W : World}
theorem open_nets {v : Value} {n : Nat} {z : DataW H × List MemPlace} (h : DataW.trod enc Tryz.prog W 0 (fun _ => true) true n 30 [v] = some z) (hw : Wt Tryz.prog 30 z.1) :
    ∃ A c, ∃ l : List Nt, v = .slice A l.length c ∧ RN W A l ∧ Fit A l.length c ∧ l.length ≤ 140737488355328 ∧ ∀ x ∈ l, x.addr < 4294967296 := by
  obtain ⟨f0, f1, hu, t0, t1, hone⟩ := net_fields
  obtain ⟨A, m, c, rfl⟩ := open_slice_of Tryz.underlying30 h
  have h0 := open_each Tryz.underlying30 hu (k := 2) (by kernel_rfl) (of_decide_eq_true (by kernel_rfl)) h hw
  obtain ⟨l, hl, h1, h2, h3, h4⟩ := rw_of (β := Nt) (k := 2) (by omega) (f := ncs) (p := fun x => x.addr < 4294967296) (R := reachBytes) (W := W) (A := A) (n := m) (c := c) (h0.imp id fun ⟨a, e, k1, k2, k3, k4⟩ => ⟨a, e, k1, k2, k3, fun i hi => by
    obtain ⟨cs, fuel', y, q1, q2, q3, q4⟩ := k4 i hi
    match cs, q1 with
    | [v0, v1], _ =>
      obtain ⟨n0, z0, r0, _⟩ := open_field hu hone q3 q4 0 f0 rfl v0 rfl
      obtain ⟨n1, z1, r1, _⟩ := open_field hu hone q3 q4 1 f1 rfl v1 rfl
      rw [t0] at r0
      rw [t1] at r1
      obtain ⟨x0, rfl, w0⟩ := open_num Tryz.underlying83 r0
      obtain ⟨x1, rfl, w1⟩ := open_num Tryz.underlying3 r1
      have hx : 0 ≤ x0 ∧ x0 < 4294967296 := by
        have h1 := lit_u32 w0
        exact h1
      refine ⟨⟨x0.toNat, x1⟩, by show x0.toNat < _; omega, fun j hj => ?_⟩
      have e0 : ((x0.toNat : Nat) : Int) = x0 := by omega
      have := q2 j hj
      rw [this]
      match j, hj with
      | 0, _ => simp [e0]
      | 1, _ => rfl⟩) (fun _ => rfl)
  have h5 : reachBytes < 140737488355328 := reachBytes_lt
  exact ⟨A, c, l, by rw [hl], h1, h2, by omega, h4⟩
theorem open_toks {v : Value} {n : Nat} {z : DataW H × List MemPlace} (h : DataW.trod enc Tryz.prog W 0 (fun _ => true) true n 31 [v] = some z) (hw : Wt Tryz.prog 31 z.1) :
    ∃ A c, ∃ l : List Tk, v = .slice A l.length c ∧ RK W A l ∧ Fit A l.length c ∧ l.length ≤ 140737488355328 ∧ ∀ x ∈ l, x.name.size ≤ 140737488355328 ∧ x.sec.size ≤ 140737488355328 := by
  obtain ⟨f0, f1, f2, hu, t0, t1, t2, hone⟩ := tok_fields
  obtain ⟨A, m, c, rfl⟩ := open_slice_of Tryz.underlying31 h
  have h0 := open_each Tryz.underlying31 hu (k := 3) (by kernel_rfl) (of_decide_eq_true (by kernel_rfl)) h hw
  obtain ⟨l, hl, h1, h2, h3, h4⟩ := rw_of (β := Tk) (k := 3) (by omega) (f := kcs) (p := fun x => x.name.size ≤ 140737488355328 ∧ x.sec.size ≤ 140737488355328) (R := reachBytes) (W := W) (A := A) (n := m) (c := c) (h0.imp id fun ⟨a, e, k1, k2, k3, k4⟩ => ⟨a, e, k1, k2, k3, fun i hi => by
    obtain ⟨cs, fuel', y, q1, q2, q3, q4⟩ := k4 i hi
    match cs, q1 with
    | [v0, v1, v2], _ =>
      obtain ⟨n0, z0, r0, y0⟩ := open_field hu hone q3 q4 0 f0 rfl v0 rfl
      obtain ⟨n1, z1, r1, y1⟩ := open_field hu hone q3 q4 1 f1 rfl v1 rfl
      obtain ⟨n2, z2, r2, _⟩ := open_field hu hone q3 q4 2 f2 rfl v2 rfl
      rw [t0] at r0 y0
      rw [t1] at r1 y1
      rw [t2] at r2
      obtain ⟨x0, rfl, w0⟩ := open_str Tryz.underlying9 r0 y0
      obtain ⟨x1, rfl, w1⟩ := open_str Tryz.underlying9 r1 y1
      obtain ⟨x2, rfl, _⟩ := open_num Tryz.underlying2 r2
      refine ⟨⟨x0, x1, x2⟩, ⟨w0, w1⟩, fun j hj => ?_⟩
      have := q2 j hj
      rw [this]
      match j, hj with
      | 0, _ => rfl
      | 1, _ => rfl
      | 2, _ => rfl⟩) (fun _ => rfl)
  have h5 : reachBytes < 140737488355328 := reachBytes_lt
  exact ⟨A, c, l, by rw [hl], h1, h2, by omega, h4⟩
/-- A tenant that came in. -/
structure InTv (W : World) (x : Tv) : Prop where
  r : RT1 W x
  nn : x.t.nets.length ≤ 140737488355328
  nk : x.t.toks.length ≤ 140737488355328
theorem open_tens {v : Value} {n : Nat} {z : DataW H × List MemPlace} (h : DataW.trod enc Tryz.prog W 0 (fun _ => true) true n 22 [v] = some z) (hw : Wt Tryz.prog 22 z.1) :
    ∃ A c, ∃ l : List Tv, v = .slice A l.length c ∧ Rw 5 tcs W A l ∧ Fit A l.length c ∧ l.length ≤ 140737488355328 ∧ ∀ x ∈ l, InTv W x := by
  obtain ⟨f0, f1, f2, f3, f4, hu, t0, t1, t2, t3, t4, hone⟩ := ten_fields
  obtain ⟨A, m, c, rfl⟩ := open_slice_of Tryz.underlying22 h
  have h0 := open_each Tryz.underlying22 hu (k := 5) (by kernel_rfl) (of_decide_eq_true (by kernel_rfl)) h hw
  obtain ⟨l, hl, h1, h2, h3, h4⟩ := rw_of (β := Tv) (k := 5) (by omega) (f := tcs) (p := fun x => InTv W x) (R := reachBytes) (W := W) (A := A) (n := m) (c := c) (h0.imp id fun ⟨a, e, k1, k2, k3, k4⟩ => ⟨a, e, k1, k2, k3, fun i hi => by
    obtain ⟨cs, fuel', y, q1, q2, q3, q4⟩ := k4 i hi
    obtain ⟨v0, v1, v2, v3, v4, rfl⟩ := five q1
    obtain ⟨n0, z0, r0, y0⟩ := open_field hu hone q3 q4 0 f0 rfl v0 rfl
    obtain ⟨n1, z1, r1, _⟩ := open_field hu hone q3 q4 1 f1 rfl v1 rfl
    obtain ⟨n2, z2, r2, _⟩ := open_field hu hone q3 q4 2 f2 rfl v2 rfl
    obtain ⟨n3, z3, r3, y3⟩ := open_field hu hone q3 q4 3 f3 rfl v3 rfl
    obtain ⟨n4, z4, r4, y4⟩ := open_field hu hone q3 q4 4 f4 rfl v4 rfl
    rw [t0] at r0 y0
    rw [t1] at r1
    rw [t2] at r2
    rw [t3] at r3 y3
    rw [t4] at r4 y4
    obtain ⟨x0, rfl, w0⟩ := open_str Tryz.underlying9 r0 y0
    obtain ⟨x1, rfl, _⟩ := open_num Tryz.underlying3 r1
    obtain ⟨x2, rfl, _⟩ := open_num Tryz.underlying3 r2
    obtain ⟨An, cn, ln, rfl, b1, b2, b3, b4⟩ := open_nets r3 y3
    obtain ⟨Ak, ck, lk, rfl, d1, d2, d3, d4⟩ := open_toks r4 y4
    refine ⟨⟨⟨x0, x1, x2, ln, lk⟩, An, cn, Ak, ck⟩, ⟨⟨b1, d1, b2, d2, b4, w0, d4⟩, b3, d3⟩, fun j hj => ?_⟩
    have := q2 j hj
    rw [this]
    match j, hj with
    | 0, _ => rfl
    | 1, _ => rfl
    | 2, _ => rfl
    | 3, _ => rfl
    | 4, _ => rfl⟩) (fun _ => rfl)
  have h5 : reachBytes < 140737488355328 := reachBytes_lt
  exact ⟨A, c, l, by rw [hl], h1, h2, by omega, h4⟩
end
/-- A configuration that came in. -/
structure InCf (W : World) (x : Cv) : Prop where
  rc : RC W x
  n : x.ts.length ≤ 140737488355328
  each : ∀ y ∈ x.ts, InTv W y

set_option maxRecDepth 100000 in
theorem open_cfg {H : Type} {enc : TypeId × Value → H} {W : World} {r : Reach} {b0 : Nat} {v : Value} {d : DataW H} {p : List MemPlace} {ts : List TypeId} {ds : List (DataW H)} {j : Nat} (hv : Value.okWide Tryz.prog W r b0 24 v) (h : DataW.Trod enc Tryz.prog W 0 (fun _ => true) true 24 v d p)
    (hz : (DataW.weightsEach Tryz.prog ts ds).all (· ≤ reachBytes) = true) (hj : ts[j]? = some 24) (hd : ds[j]? = some d) : ∃ x : Cv, v = .agg (ccs x) ∧ InCf W x := by
  obtain ⟨f0, f1, f2, f3, f4, hu, t0, t1, t2, t3, t4, hone⟩ := cfg_fields
  obtain ⟨cs, rfl, hsz⟩ := okWide_struct hu hv
  have hsz5 : cs.toList.length = 5 := by rw [Array.length_toList, hsz]; exact (show Tryz.prog.cellsOf 24 = 5 by kernel_rfl)
  obtain ⟨v0, v1, v2, v3, v4, hcs⟩ := five hsz5
  have hcs' : cs = #[v0, v1, v2, v3, v4] := by rw [← hcs]
  subst hcs'
  obtain ⟨fuel, hfu⟩ := h
  have hw : Wt Tryz.prog 24 d := fun n hn => by
    have := List.all_eq_true.1 hz _ (DataW.weights_mem_each hj hd n hn)
    simpa using this
  have hfu' : DataW.trod enc Tryz.prog W 0 (fun _ => true) true fuel 24 [v0, v1, v2, v3, v4] = some (d, p) := hfu
  obtain ⟨n0, z0, r0, _⟩ := open_field hu hone hfu' hw 0 f0 rfl v0 rfl
  obtain ⟨n1, z1, r1, _⟩ := open_field hu hone hfu' hw 1 f1 rfl v1 rfl
  obtain ⟨n2, z2, r2, _⟩ := open_field hu hone hfu' hw 2 f2 rfl v2 rfl
  obtain ⟨n3, z3, r3, _⟩ := open_field hu hone hfu' hw 3 f3 rfl v3 rfl
  obtain ⟨n4, z4, r4, y4⟩ := open_field hu hone hfu' hw 4 f4 rfl v4 rfl
  rw [t0] at r0
  rw [t1] at r1
  rw [t2] at r2
  rw [t3] at r3
  rw [t4] at r4 y4
  obtain ⟨x0, rfl, _⟩ := open_num Tryz.underlying2 r0
  obtain ⟨x1, rfl, _⟩ := open_num Tryz.underlying2 r1
  obtain ⟨x2, rfl, _⟩ := open_num Tryz.underlying2 r2
  obtain ⟨x3, rfl, _⟩ := open_num Tryz.underlying2 r3
  obtain ⟨A, c, l, rfl, b1, b2, b3, b4⟩ := open_tens r4 y4
  exact ⟨⟨x0, x1, x2, x3, l, A, c⟩, rfl, ⟨⟨⟨b1, fun y hy => (b4 y hy).r⟩, b2⟩, b3, b4⟩⟩
end Go.Proofs.YtekobdmlgbffnaaGreatDoor
