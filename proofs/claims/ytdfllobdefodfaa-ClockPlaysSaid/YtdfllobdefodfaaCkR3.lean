/- The document's own clock: Set. (Written by gen_ckrset.py.) -/
import Derived.Test.YtdfllobdefodfaaCkR2
namespace Go.Proofs.Ytdfllobdefodfaa
set_option linter.unusedVariables false
set_option linter.unusedSimpArgs false
open Go.RowKit

/-- What Set's loop has made of the first i of M: x is in already, or not yet. -/
def InsR (x : Ky) (M : List Ky) (i : Nat) (dn : Bool) (out : List Ky) : Prop := (dn = true ∧ insM x M = out ++ M.drop i) ∨ (dn = false ∧ out = M.take i ∧ insM x M = M.take i ++ insM x (M.drop i))
theorem drop_at {M : List Ky} {i : Nat} {y : Ky} (hy : M[i]? = some y) : M.drop i = y :: M.drop (i + 1) ∧ M.take (i + 1) = M.take i ++ [y] := by
  have hi : i < M.length := (List.getElem?_eq_some_iff.1 hy).1
  have he : M[i] = y := (List.getElem?_eq_some_iff.1 hy).2
  rw [List.drop_eq_getElem_cons hi, List.take_succ_eq_append_getElem hi, he]
  exact ⟨rfl, rfl⟩
theorem InsR.put {x y : Ky} {M out : List Ky} {i : Nat} (h : InsR x M i false out) (hy : M[i]? = some y) (hk : Kl x y) : insM x M = (out ++ [x]) ++ [y] ++ M.drop (i + 1) := by
  rcases h with ⟨h, _⟩ | ⟨_, h1, h2⟩
  · cases h
  · obtain ⟨e1, e2⟩ := drop_at hy
    rw [h2, e1, h1]
    unfold insM
    rw [if_pos hk]
    simp
theorem InsR.pass {x y : Ky} {M out : List Ky} {i : Nat} (h : InsR x M i false out) (hy : M[i]? = some y) (hk : ¬ Kl x y) : InsR x M (i + 1) false (out ++ [y]) := by
  rcases h with ⟨h, _⟩ | ⟨_, h1, h2⟩
  · cases h
  · obtain ⟨e1, e2⟩ := drop_at hy
    refine .inr ⟨rfl, by rw [e2, h1], ?_⟩
    rw [h2, e1, e2]
    conv => lhs; rhs; unfold insM
    rw [if_neg hk]
    simp
theorem InsR.done {x y : Ky} {M out : List Ky} {i : Nat} (h : InsR x M i true out) (hy : M[i]? = some y) : InsR x M (i + 1) true (out ++ [y]) := by
  rcases h with ⟨_, h⟩ | ⟨h, _⟩
  · obtain ⟨e1, _⟩ := drop_at hy
    exact .inl ⟨rfl, by rw [h, e1]; simp⟩
  · cases h
theorem InsR.len {x : Ky} {M out : List Ky} {i : Nat} (h : InsR x M i false out) : out.length ≤ i := by
  rcases h with ⟨h, _⟩ | ⟨_, h, _⟩
  · cases h
  · rw [h, List.length_take]; omega
theorem OA.lower {w : World} {B B' : Nat} {A : Option Addr} {c : Nat} {L : List Ky} (h : OA w B A c L) (hB : B' ≤ B) : OA w B' A c L := by
  refine ⟨h.1, ?_⟩
  rcases h.2 with hn | ⟨g, cap, cur, hv, hg, r⟩
  · exact .inl hn
  · exact .inr ⟨g, cap, cur, hv, Nat.le_trans hB hg, r⟩
theorem out_len (k : Int) (S : List Ky) (h : ¬ (atM k S = none ∧ 1024 ≤ S.length)) (hl : S.length ≤ 1024) : (outM k S).length ≤ 1023 := by
  by_cases hf : S.length = 1024
  · have hs : atM k S ≠ none := fun e => h ⟨e, by omega⟩
    rw [Ne, atM_none_iff] at hs
    have : ∃ y ∈ S, y.1 = k := by
      apply Classical.byContradiction
      intro hno
      exact hs (fun y hy e => hno ⟨y, hy, e⟩)
    obtain ⟨y, hy, e⟩ := this
    have : (outM k S).length < S.length := by
      unfold outM
      apply List.length_filter_lt_length_iff_exists.2
      exact ⟨y, hy, by simp [e]⟩
    omega
  · have := out_length_le k S
    omega

set_option maxRecDepth 100000 in
set_option maxHeartbeats 8000000 in
theorem rset_ok (u : World) {K : List Nat} {s : Nat} {now : Int} {S : List Ky} (h : Rk u K s now S) (k t : Int) (E : Int) (S' : List Ky) (hE : setE now S k t = E) (hS : setS now S k t = S') :
    Calls Try.prog 18 #[.pointer (some ⟨s, 0, none⟩), .int .i64 k, .int .i64 t] u fun e u' => e = .returned (.int .i64 E) ∧ Rk u' K s now S' ∧ Ke [s] u u' := by
  have H := Lib.hid h
  have HAT := Lib.hid (rat_ok u h k _ _ rfl rfl)
  have hex := h.ex
  obtain ⟨A, cp, h1, h2, h3, h4, h5⟩ := hex
  have h6 := h.few
  have HR := Lib.hid (And.intro h1 h2)
  obtain ⟨c0, c1⟩ := h1.cells2
  subst hE; subst hS
  by_cases ht : t ≤ now
  · have HE := Lib.hid (setE_arg (S := S) (k := k) (t := t) (now := now) (.inl ht))
    clear h1 h2 h3 h4 h5 h h6
    go_enter Try.func18, Try.ntmps18
    go_wp2_with fail
    go_ret
    exact ⟨by rw [HE.out.1]; rfl, by rw [HE.out.2]; exact H.out, Ke.refl _ _⟩
  · have hd : decide (t ≤ now) = false := by simp; omega
    by_cases ht2 : 2199023255552 < t
    · have HE := Lib.hid (setE_arg (S := S) (k := k) (t := t) (now := now) (.inr ht2))
      clear h1 h2 h3 h4 h5 h h6
      go_enter Try.func18, Try.ntmps18
      go_wp2_with fail
      go_ret
      exact ⟨by rw [HE.out.1]; rfl, by rw [HE.out.2]; exact H.out, Ke.refl _ _⟩
    · have hd2 : decide (2199023255552 < t) = false := by simp; omega
      by_cases hfull : atM k S = none ∧ 1024 ≤ S.length
      · have HE := Lib.hid (setE_many (S := S) (k := k) (t := t) (now := now) (by omega) hfull)
        have hf2 : (1024 : Int) ≤ (S.length : Int) := by omega
        have HNO := Lib.hid (show (atM k S).isSome = false by rw [hfull.1]; rfl)
        rw [HNO.out] at HAT
        generalize S.length = n at c0 hf2
        clear h1 h2 h3 h4 h5 h h6 hfull
        go_enter Try.func18, Try.ntmps18
        go_wp2_with (go_at_call 20; refine HAT.out.mono ?_; rintro e u1 ⟨rfl, rfl⟩)
        go_ret
        exact ⟨by rw [HE.out.1]; rfl, by rw [HE.out.2]; exact H.out, Ke.refl _ _⟩
      · have HE := Lib.hid (setE_ok (S := S) (k := k) (t := t) (now := now) (by omega) hfull)
        have HOL := Lib.hid (out_len k S hfull h6)
        have HWO := Lib.hid (without_ok A S.length cp S k (s :: K) u rfl h2 h6)
        obtain ⟨bs, hbs⟩ : ∃ bs, (atM k S).isSome = bs := ⟨_, rfl⟩
        have hguard : bs = true ∨ S.length < 1024 := by
          cases bs
          · right
            have : atM k S = none := by cases hq : atM k S with
              | none => rfl
              | some v => rw [hq] at hbs; cases hbs
            have : ¬ 1024 ≤ S.length := fun hh => hfull ⟨this, hh⟩
            omega
          · exact .inl rfl
        rw [hbs] at HAT
        obtain ⟨n, hn⟩ : ∃ n, n = S.length := ⟨_, rfl⟩
        rw [← hn] at c0 HWO hguard
        clear h1 h2 h3 h4 h5 h h6 hfull hbs hn
        go_enter Try.func18, Try.ntmps18
        have hgn : bs = true ∨ (bs = false ∧ decide ((1024 : Int) ≤ (n : Int)) = false ∧ ¬ (1024 : Int) ≤ (n : Int)) := by
          cases bs
          · right
            have : n < 1024 := by rcases hguard with h | h
                                  · cases h
                                  · exact h
            exact ⟨rfl, by simp; omega, by omega⟩
          · exact .inl rfl
        clear hguard
        rcases hgn with rfl | ⟨rfl, hg1, hg2⟩
        · go_upto_region 8 with (go_at_call 20; refine HAT.out.mono ?_; rintro e u1 ⟨rfl, rfl⟩)
          go_wp2_with (go_at_call 25; refine HWO.out.mono ?_; rintro e u2 ⟨A1, m, c1', rfl, k1, k2, k3⟩; have H2 := Lib.hid (And.intro k1 (And.intro k2 k3)); clear k1 k2 k3)
          have HM := Lib.hid H2.out.1
          have HRD := Lib.hid (H2.out.2.1.ra (K := []) (by simp))
          have hm4 : m ≤ 1023 := by rw [← HM.out]; exact HOL.out
          go_loopw [9, 10, 12] (fun v9 v10 v12 wx => ∃ (i : Nat) (A2 : Option Addr) (q c2 : Nat) (dn : Bool), i ≤ m ∧ v12 = .int .i64 (i : Int) ∧ v9 = .slice A2 q c2 ∧ v10 = .bool dn ∧ Hid (∃ out, out.length = q ∧ OA wx u2.heap.size A2 c2 out ∧ Below u2.heap.size u2 wx ∧ q ≤ i + 1 ∧ InsR (k, t) (outM k S) i dn out)) (fun _ _ v12 _ => m - (intOf v12).toNat)
          case atStart => exact ⟨0, none, 0, 0, false, by omega, rfl, rfl, rfl, Lib.hid ⟨[], rfl, OA.nil _ _, Below.refl _ _, by omega, .inr ⟨rfl, rfl, rfl⟩⟩⟩
          case round =>
            obtain ⟨i, A2, q, c2, dn, hi, rfl, rfl, rfl, HR2⟩ := hrel
            obtain ⟨out, r1, r2, r3, r4, r5⟩ := HR2.out
            have hq4 : q ≤ 1025 := by omega
            by_cases hin : i < m
            · have hi2 : (i : Int) < (m : Int) := by omega
              obtain ⟨b, o, y, rfl, hy, d0, d1⟩ := (HRD.out.below r3 (Nat.le_refl _)).at_ (i := i) (by rw [HM.out]; exact hin)
              have HY := Lib.hid hy
              obtain ⟨y1, y2⟩ := y
              dsimp only at d0 d1
              clear hy
              cases dn with
              | true =>
                have HI := Lib.hid (show out.length = q ∧ OA wr u2.heap.size A2 c2 out ∧ Below u2.heap.size u2 wr ∧ q ≤ i + 1 ∧ InsR (k, t) (outM k S) i true out from ⟨r1, r2, r3, r4, r5⟩)
                clear r1 r2 r3 r4 r5 HR2
                go_wp2_with (first
                  | (refine wp_app_al rfl (.tmp 86) (.tmp 91) rfl u2.heap.size _ A2 q c2 rfl HI.out.1 (HI.out.2.1.ke (K := []) ((Ke.refl _ _).alloc _) (by simp)) (y1, y2) wr.heap.size rfl ⟨by rw [(Bk.here rfl).cell]; rfl, by rw [(Bk.here rfl).cell]; rfl⟩ (by omega) (by have := HI.out.2.2.1.size; rw [World.size_alloc]; omega) (q + 1) rfl ?_; intro A5 c5 w5 k1 k2; have H5 := Lib.hid (And.intro k1 k2); clear k1 k2))
                all_goals (first | (have hh := ‹some undef = some (Value.bool _)›; injection hh with hh; cases hh; done) | skip)
                go_roundw
                case rel => exact ⟨i + 1, A5, q + 1, c5, true, by omega, by go_num, rfl, rfl, Lib.hid ⟨_, by rw [List.length_append, HI.out.1]; rfl, H5.out.1, (HI.out.2.2.1.alloc HI.out.2.2.1.size _).trans H5.out.2, by have := HI.out.2.2.2.1; omega, HI.out.2.2.2.2.done HY.out⟩⟩
                case measure => simp [intOf]; omega
              | false =>
                have HI := Lib.hid (show out.length = q ∧ OA wr u2.heap.size A2 c2 out ∧ Below u2.heap.size u2 wr ∧ q ≤ i + 1 ∧ InsR (k, t) (outM k S) i false out from ⟨r1, r2, r3, r4, r5⟩)
                clear r1 r2 r3 r4 r5 HR2
                by_cases hty : t < y2
                · have HKL := Lib.hid (show Kl (k, t) (y1, y2) from .inl hty)
                  have hty2 : decide (t < y2) = true := by simp [hty]
                  go_wp2_with (first
                    | (refine wp_app_al rfl (.tmp 80) (.tmp 84) rfl u2.heap.size _ A2 q c2 rfl HI.out.1 (HI.out.2.1.ke (K := []) ((Ke.refl _ _).alloc _) (by simp)) (k, t) wr.heap.size rfl ⟨by rw [(Bk.here rfl).cell]; rfl, by rw [(Bk.here rfl).cell]; rfl⟩ (by omega) (by have := HI.out.2.2.1.size; rw [World.size_alloc]; omega) (q + 1) rfl ?_; intro A4 c4 w4 k1 k2; have H4 := Lib.hid (And.intro k1 ((HI.out.2.2.1.alloc HI.out.2.2.1.size _).trans k2)); have e0 := (HRD.out.below H4.out.2 (Nat.le_refl _)).at_ (i := i) (by rw [HM.out]; exact hin); obtain ⟨b5, o5, z5, e1, hz5, d5, d6⟩ := e0; injection e1 with e1; injection e1 with e1 e2; subst e1; subst e2; have e3 : z5 = (y1, y2) := Option.some.inj (hz5.symm.trans HY.out); subst e3; dsimp only at d5 d6; clear k1 k2 hz5)
                    | (refine wp_app_al rfl (.tmp 86) (.tmp 91) rfl u2.heap.size _ A4 (q + 1) c4 rfl (by rw [List.length_append, HI.out.1]; rfl) (H4.out.1.ke (K := []) ((Ke.refl _ _).alloc _) (by simp)) (y1, y2) w4.heap.size rfl ⟨by rw [(Bk.here rfl).cell]; rfl, by rw [(Bk.here rfl).cell]; rfl⟩ (by omega) (by have := H4.out.2.size; rw [World.size_alloc]; omega) ((q + 1) + 1) rfl ?_; intro A5 c5 w5 k1 k2; have H5 := Lib.hid (And.intro k1 k2); clear k1 k2))
                  all_goals (first | (have hh := ‹some undef = some (Value.bool _)›; injection hh with hh; cases hh; done) | skip)
                  go_roundw
                  case rel => exact ⟨i + 1, A5, q + 1 + 1, c5, true, by omega, by go_num, rfl, rfl, Lib.hid ⟨_, by rw [List.length_append, List.length_append, HI.out.1]; rfl, H5.out.1, (H4.out.2.alloc H4.out.2.size _).trans H5.out.2, by have := HI.out.2.2.2.2.len; have := HI.out.1; omega, .inl ⟨rfl, (HI.out.2.2.2.2.put HY.out HKL.out)⟩⟩⟩
                  case measure => simp [intOf]; omega
                · have hty2 : decide (t < y2) = false := by simp only [decide_eq_false_iff_not]; exact hty
                  by_cases hte : y2 = t
                  · subst hte
                    by_cases hky : k < y1
                    · have HKL := Lib.hid (show Kl (k, y2) (y1, y2) from .inr ⟨rfl, hky⟩)
                      have hky2 : decide (k < y1) = true := by simp [hky]
                      clear hty hty2
                      go_wp2_with (first
                        | (refine wp_app_al rfl (.tmp 80) (.tmp 84) rfl u2.heap.size _ A2 q c2 rfl HI.out.1 (HI.out.2.1.ke (K := []) ((Ke.refl _ _).alloc _) (by simp)) (k, y2) wr.heap.size rfl ⟨by rw [(Bk.here rfl).cell]; rfl, by rw [(Bk.here rfl).cell]; rfl⟩ (by omega) (by have := HI.out.2.2.1.size; rw [World.size_alloc]; omega) (q + 1) rfl ?_; intro A4 c4 w4 k1 k2; have H4 := Lib.hid (And.intro k1 ((HI.out.2.2.1.alloc HI.out.2.2.1.size _).trans k2)); have e0 := (HRD.out.below H4.out.2 (Nat.le_refl _)).at_ (i := i) (by rw [HM.out]; exact hin); obtain ⟨b5, o5, z5, e1, hz5, d5, d6⟩ := e0; injection e1 with e1; injection e1 with e1 e2; subst e1; subst e2; have e3 : z5 = (y1, y2) := Option.some.inj (hz5.symm.trans HY.out); subst e3; dsimp only at d5 d6; clear k1 k2 hz5)
                        | (refine wp_app_al rfl (.tmp 86) (.tmp 91) rfl u2.heap.size _ A4 (q + 1) c4 rfl (by rw [List.length_append, HI.out.1]; rfl) (H4.out.1.ke (K := []) ((Ke.refl _ _).alloc _) (by simp)) (y1, y2) w4.heap.size rfl ⟨by rw [(Bk.here rfl).cell]; rfl, by rw [(Bk.here rfl).cell]; rfl⟩ (by omega) (by have := H4.out.2.size; rw [World.size_alloc]; omega) ((q + 1) + 1) rfl ?_; intro A5 c5 w5 k1 k2; have H5 := Lib.hid (And.intro k1 k2); clear k1 k2))
                      all_goals (first | (have hh := ‹some undef = some (Value.bool _)›; injection hh with hh; cases hh; done) | skip)
                      go_roundw
                      case rel => exact ⟨i + 1, A5, q + 1 + 1, c5, true, by omega, by go_num, rfl, rfl, Lib.hid ⟨_, by rw [List.length_append, List.length_append, HI.out.1]; rfl, H5.out.1, (H4.out.2.alloc H4.out.2.size _).trans H5.out.2, by have := HI.out.2.2.2.2.len; have := HI.out.1; omega, .inl ⟨rfl, (HI.out.2.2.2.2.put HY.out HKL.out)⟩⟩⟩
                      case measure => simp [intOf]; omega
                    · have HKL := Lib.hid (show ¬ Kl (k, y2) (y1, y2) from fun hh => by unfold Kl at hh; simp only at hh; omega)
                      have hky2 : decide (k < y1) = false := by simp only [decide_eq_false_iff_not]; exact hky
                      clear hty hty2
                      go_wp2_with (first
                        | (refine wp_app_al rfl (.tmp 86) (.tmp 91) rfl u2.heap.size _ A2 q c2 rfl HI.out.1 (HI.out.2.1.ke (K := []) ((Ke.refl _ _).alloc _) (by simp)) (y1, y2) wr.heap.size rfl ⟨by rw [(Bk.here rfl).cell]; rfl, by rw [(Bk.here rfl).cell]; rfl⟩ (by omega) (by have := HI.out.2.2.1.size; rw [World.size_alloc]; omega) (q + 1) rfl ?_; intro A5 c5 w5 k1 k2; have H5 := Lib.hid (And.intro k1 k2); clear k1 k2))
                      all_goals (first | (have hh := ‹some undef = some (Value.bool _)›; injection hh with hh; cases hh; done) | skip)
                      go_roundw
                      case rel => exact ⟨i + 1, A5, q + 1, c5, false, by omega, by go_num, rfl, rfl, Lib.hid ⟨_, by rw [List.length_append, HI.out.1]; rfl, H5.out.1, (HI.out.2.2.1.alloc HI.out.2.2.1.size _).trans H5.out.2, by have := HI.out.2.2.2.1; omega, HI.out.2.2.2.2.pass HY.out HKL.out⟩⟩
                      case measure => simp [intOf]; omega
                  · have HKL := Lib.hid (show ¬ Kl (k, t) (y1, y2) from fun hh => by unfold Kl at hh; simp only at hh; omega)
                    have hte2 : (y2 == t) = false := by simp [hte]
                    go_wp2_with (first
                      | (refine wp_app_al rfl (.tmp 86) (.tmp 91) rfl u2.heap.size _ A2 q c2 rfl HI.out.1 (HI.out.2.1.ke (K := []) ((Ke.refl _ _).alloc _) (by simp)) (y1, y2) wr.heap.size rfl ⟨by rw [(Bk.here rfl).cell]; rfl, by rw [(Bk.here rfl).cell]; rfl⟩ (by omega) (by have := HI.out.2.2.1.size; rw [World.size_alloc]; omega) (q + 1) rfl ?_; intro A5 c5 w5 k1 k2; have H5 := Lib.hid (And.intro k1 k2); clear k1 k2))
                    all_goals (first | (have hh := ‹some undef = some (Value.bool _)›; injection hh with hh; cases hh; done) | skip)
                    go_roundw
                    case rel => exact ⟨i + 1, A5, q + 1, c5, false, by omega, by go_num, rfl, rfl, Lib.hid ⟨_, by rw [List.length_append, HI.out.1]; rfl, H5.out.1, (HI.out.2.2.1.alloc HI.out.2.2.1.size _).trans H5.out.2, by have := HI.out.2.2.2.1; omega, HI.out.2.2.2.2.pass HY.out HKL.out⟩⟩
                    case measure => simp [intOf]; omega
            · have hi2 : ¬ (i : Int) < (m : Int) := by omega
              have hid : decide ((i : Int) < (m : Int)) = false := by simp only [decide_eq_false_iff_not]; omega
              have HIM := Lib.hid (show i = (outM k S).length by rw [HM.out]; omega)
              have HSB := Lib.hid (show ∀ w, Below u2.heap.size u2 w → Bk w s 42 (rcl A S.length cp now) from fun w hb => (HR.out.1.below H2.out.2.2 HR.out.1.lt).below hb (Nat.lt_of_lt_of_le HR.out.1.lt H2.out.2.2.size))
              cases dn with
              | true =>
                have HI := Lib.hid (show out.length = q ∧ OA wr u2.heap.size A2 c2 out ∧ Below u2.heap.size u2 wr ∧ insM (k, t) (outM k S) = out from ⟨r1, r2, r3, by
                  rcases r5 with ⟨_, h⟩ | ⟨h, _⟩
                  · rw [h, HIM.out, List.drop_length, List.append_nil]
                  · cases h⟩)
                have hsc := HSB.out wr r3
                obtain ⟨e0, e1⟩ := hsc.cells2
                have f0 := hsc.frozen 0
                have HSC := Lib.hid hsc
                clear r1 r2 r3 r4 r5 HR2 hsc
                go_wp2_with fail
                go_ret
                refine ⟨by rw [HE.out.1]; rfl, ?_, ?_⟩
                · rw [HE.out.2]
                  have hl : (setM k t S).length = q := by unfold setM; rw [HI.out.2.2.2]; exact HI.out.1
                  exact rk_store H.out HSC.out H.out.t0 H.out.t1 (.inr trivial) (Nat.le_trans H2.out.2.2.size HI.out.2.2.1.size) (by unfold setM; rw [HI.out.2.2.2]; exact HI.out.2.1.lower H2.out.2.2.size) hl (by rw [hl]; have := HI.out.1; have := (insM_perm (k, t) (outM k S)).length_eq; rw [HI.out.2.2.2, List.length_cons, HM.out] at this; omega)
                · exact ((Ke.of H2.out.2.2).andBelow HI.out.2.2.1 H2.out.2.2.size).nil.set (p := ⟨s, 0, none⟩) (by simp) _
              | false =>
                have HI := Lib.hid (show out.length = q ∧ OA wr u2.heap.size A2 c2 out ∧ Below u2.heap.size u2 wr ∧ insM (k, t) (outM k S) = out ++ [(k, t)] from ⟨r1, r2, r3, by
                  rcases r5 with ⟨h, _⟩ | ⟨_, h1, h2⟩
                  · cases h
                  · rw [h2, HIM.out, List.drop_length, h1, HIM.out]; rfl⟩)
                clear r1 r2 r3 r4 r5 HR2
                go_wp2_with (first
                  | (refine wp_app_al rfl (.tmp 95) (.tmp 99) rfl u2.heap.size _ A2 q c2 rfl HI.out.1 (HI.out.2.1.ke (K := []) ((Ke.refl _ _).alloc _) (by simp)) (k, t) wr.heap.size rfl ⟨by rw [(Bk.here rfl).cell]; rfl, by rw [(Bk.here rfl).cell]; rfl⟩ (by omega) (by have := HI.out.2.2.1.size; rw [World.size_alloc]; omega) (q + 1) rfl ?_; intro A4 c4 w4 k1 k2; have H4 := Lib.hid (And.intro k1 ((HI.out.2.2.1.alloc HI.out.2.2.1.size _).trans k2)); have hsc := HSB.out w4 H4.out.2; obtain ⟨e0, e1⟩ := hsc.cells2; have f0 := hsc.frozen 0; have HSC := Lib.hid hsc; clear k1 k2 hsc))
                go_ret
                refine ⟨by rw [HE.out.1]; rfl, ?_, ?_⟩
                · rw [HE.out.2]
                  have hl : (setM k t S).length = q + 1 := by unfold setM; rw [HI.out.2.2.2, List.length_append, HI.out.1]; rfl
                  exact rk_store H.out HSC.out H.out.t0 H.out.t1 (.inr trivial) (Nat.le_trans H2.out.2.2.size H4.out.2.size) (by unfold setM; rw [HI.out.2.2.2]; exact H4.out.1.lower H2.out.2.2.size) hl (by rw [hl]; have := HI.out.1; have := (insM_perm (k, t) (outM k S)).length_eq; rw [HI.out.2.2.2, List.length_append, List.length_cons, List.length_cons, HM.out] at this; simp at this; omega)
                · exact ((Ke.of H2.out.2.2).andBelow H4.out.2 H2.out.2.2.size).nil.set (p := ⟨s, 0, none⟩) (by simp) _
        · go_upto_region 8 with (go_at_call 20; refine HAT.out.mono ?_; rintro e u1 ⟨rfl, rfl⟩)
          go_wp2_with (go_at_call 25; refine HWO.out.mono ?_; rintro e u2 ⟨A1, m, c1', rfl, k1, k2, k3⟩; have H2 := Lib.hid (And.intro k1 (And.intro k2 k3)); clear k1 k2 k3)
          have HM := Lib.hid H2.out.1
          have HRD := Lib.hid (H2.out.2.1.ra (K := []) (by simp))
          have hm4 : m ≤ 1023 := by rw [← HM.out]; exact HOL.out
          go_loopw [9, 10, 12] (fun v9 v10 v12 wx => ∃ (i : Nat) (A2 : Option Addr) (q c2 : Nat) (dn : Bool), i ≤ m ∧ v12 = .int .i64 (i : Int) ∧ v9 = .slice A2 q c2 ∧ v10 = .bool dn ∧ Hid (∃ out, out.length = q ∧ OA wx u2.heap.size A2 c2 out ∧ Below u2.heap.size u2 wx ∧ q ≤ i + 1 ∧ InsR (k, t) (outM k S) i dn out)) (fun _ _ v12 _ => m - (intOf v12).toNat)
          case atStart => exact ⟨0, none, 0, 0, false, by omega, rfl, rfl, rfl, Lib.hid ⟨[], rfl, OA.nil _ _, Below.refl _ _, by omega, .inr ⟨rfl, rfl, rfl⟩⟩⟩
          case round =>
            obtain ⟨i, A2, q, c2, dn, hi, rfl, rfl, rfl, HR2⟩ := hrel
            obtain ⟨out, r1, r2, r3, r4, r5⟩ := HR2.out
            have hq4 : q ≤ 1025 := by omega
            by_cases hin : i < m
            · have hi2 : (i : Int) < (m : Int) := by omega
              obtain ⟨b, o, y, rfl, hy, d0, d1⟩ := (HRD.out.below r3 (Nat.le_refl _)).at_ (i := i) (by rw [HM.out]; exact hin)
              have HY := Lib.hid hy
              obtain ⟨y1, y2⟩ := y
              dsimp only at d0 d1
              clear hy
              cases dn with
              | true =>
                have HI := Lib.hid (show out.length = q ∧ OA wr u2.heap.size A2 c2 out ∧ Below u2.heap.size u2 wr ∧ q ≤ i + 1 ∧ InsR (k, t) (outM k S) i true out from ⟨r1, r2, r3, r4, r5⟩)
                clear r1 r2 r3 r4 r5 HR2
                go_wp2_with (first
                  | (refine wp_app_al rfl (.tmp 86) (.tmp 91) rfl u2.heap.size _ A2 q c2 rfl HI.out.1 (HI.out.2.1.ke (K := []) ((Ke.refl _ _).alloc _) (by simp)) (y1, y2) wr.heap.size rfl ⟨by rw [(Bk.here rfl).cell]; rfl, by rw [(Bk.here rfl).cell]; rfl⟩ (by omega) (by have := HI.out.2.2.1.size; rw [World.size_alloc]; omega) (q + 1) rfl ?_; intro A5 c5 w5 k1 k2; have H5 := Lib.hid (And.intro k1 k2); clear k1 k2))
                all_goals (first | (have hh := ‹some undef = some (Value.bool _)›; injection hh with hh; cases hh; done) | skip)
                go_roundw
                case rel => exact ⟨i + 1, A5, q + 1, c5, true, by omega, by go_num, rfl, rfl, Lib.hid ⟨_, by rw [List.length_append, HI.out.1]; rfl, H5.out.1, (HI.out.2.2.1.alloc HI.out.2.2.1.size _).trans H5.out.2, by have := HI.out.2.2.2.1; omega, HI.out.2.2.2.2.done HY.out⟩⟩
                case measure => simp [intOf]; omega
              | false =>
                have HI := Lib.hid (show out.length = q ∧ OA wr u2.heap.size A2 c2 out ∧ Below u2.heap.size u2 wr ∧ q ≤ i + 1 ∧ InsR (k, t) (outM k S) i false out from ⟨r1, r2, r3, r4, r5⟩)
                clear r1 r2 r3 r4 r5 HR2
                by_cases hty : t < y2
                · have HKL := Lib.hid (show Kl (k, t) (y1, y2) from .inl hty)
                  have hty2 : decide (t < y2) = true := by simp [hty]
                  go_wp2_with (first
                    | (refine wp_app_al rfl (.tmp 80) (.tmp 84) rfl u2.heap.size _ A2 q c2 rfl HI.out.1 (HI.out.2.1.ke (K := []) ((Ke.refl _ _).alloc _) (by simp)) (k, t) wr.heap.size rfl ⟨by rw [(Bk.here rfl).cell]; rfl, by rw [(Bk.here rfl).cell]; rfl⟩ (by omega) (by have := HI.out.2.2.1.size; rw [World.size_alloc]; omega) (q + 1) rfl ?_; intro A4 c4 w4 k1 k2; have H4 := Lib.hid (And.intro k1 ((HI.out.2.2.1.alloc HI.out.2.2.1.size _).trans k2)); have e0 := (HRD.out.below H4.out.2 (Nat.le_refl _)).at_ (i := i) (by rw [HM.out]; exact hin); obtain ⟨b5, o5, z5, e1, hz5, d5, d6⟩ := e0; injection e1 with e1; injection e1 with e1 e2; subst e1; subst e2; have e3 : z5 = (y1, y2) := Option.some.inj (hz5.symm.trans HY.out); subst e3; dsimp only at d5 d6; clear k1 k2 hz5)
                    | (refine wp_app_al rfl (.tmp 86) (.tmp 91) rfl u2.heap.size _ A4 (q + 1) c4 rfl (by rw [List.length_append, HI.out.1]; rfl) (H4.out.1.ke (K := []) ((Ke.refl _ _).alloc _) (by simp)) (y1, y2) w4.heap.size rfl ⟨by rw [(Bk.here rfl).cell]; rfl, by rw [(Bk.here rfl).cell]; rfl⟩ (by omega) (by have := H4.out.2.size; rw [World.size_alloc]; omega) ((q + 1) + 1) rfl ?_; intro A5 c5 w5 k1 k2; have H5 := Lib.hid (And.intro k1 k2); clear k1 k2))
                  all_goals (first | (have hh := ‹some undef = some (Value.bool _)›; injection hh with hh; cases hh; done) | skip)
                  go_roundw
                  case rel => exact ⟨i + 1, A5, q + 1 + 1, c5, true, by omega, by go_num, rfl, rfl, Lib.hid ⟨_, by rw [List.length_append, List.length_append, HI.out.1]; rfl, H5.out.1, (H4.out.2.alloc H4.out.2.size _).trans H5.out.2, by have := HI.out.2.2.2.2.len; have := HI.out.1; omega, .inl ⟨rfl, (HI.out.2.2.2.2.put HY.out HKL.out)⟩⟩⟩
                  case measure => simp [intOf]; omega
                · have hty2 : decide (t < y2) = false := by simp only [decide_eq_false_iff_not]; exact hty
                  by_cases hte : y2 = t
                  · subst hte
                    by_cases hky : k < y1
                    · have HKL := Lib.hid (show Kl (k, y2) (y1, y2) from .inr ⟨rfl, hky⟩)
                      have hky2 : decide (k < y1) = true := by simp [hky]
                      clear hty hty2
                      go_wp2_with (first
                        | (refine wp_app_al rfl (.tmp 80) (.tmp 84) rfl u2.heap.size _ A2 q c2 rfl HI.out.1 (HI.out.2.1.ke (K := []) ((Ke.refl _ _).alloc _) (by simp)) (k, y2) wr.heap.size rfl ⟨by rw [(Bk.here rfl).cell]; rfl, by rw [(Bk.here rfl).cell]; rfl⟩ (by omega) (by have := HI.out.2.2.1.size; rw [World.size_alloc]; omega) (q + 1) rfl ?_; intro A4 c4 w4 k1 k2; have H4 := Lib.hid (And.intro k1 ((HI.out.2.2.1.alloc HI.out.2.2.1.size _).trans k2)); have e0 := (HRD.out.below H4.out.2 (Nat.le_refl _)).at_ (i := i) (by rw [HM.out]; exact hin); obtain ⟨b5, o5, z5, e1, hz5, d5, d6⟩ := e0; injection e1 with e1; injection e1 with e1 e2; subst e1; subst e2; have e3 : z5 = (y1, y2) := Option.some.inj (hz5.symm.trans HY.out); subst e3; dsimp only at d5 d6; clear k1 k2 hz5)
                        | (refine wp_app_al rfl (.tmp 86) (.tmp 91) rfl u2.heap.size _ A4 (q + 1) c4 rfl (by rw [List.length_append, HI.out.1]; rfl) (H4.out.1.ke (K := []) ((Ke.refl _ _).alloc _) (by simp)) (y1, y2) w4.heap.size rfl ⟨by rw [(Bk.here rfl).cell]; rfl, by rw [(Bk.here rfl).cell]; rfl⟩ (by omega) (by have := H4.out.2.size; rw [World.size_alloc]; omega) ((q + 1) + 1) rfl ?_; intro A5 c5 w5 k1 k2; have H5 := Lib.hid (And.intro k1 k2); clear k1 k2))
                      all_goals (first | (have hh := ‹some undef = some (Value.bool _)›; injection hh with hh; cases hh; done) | skip)
                      go_roundw
                      case rel => exact ⟨i + 1, A5, q + 1 + 1, c5, true, by omega, by go_num, rfl, rfl, Lib.hid ⟨_, by rw [List.length_append, List.length_append, HI.out.1]; rfl, H5.out.1, (H4.out.2.alloc H4.out.2.size _).trans H5.out.2, by have := HI.out.2.2.2.2.len; have := HI.out.1; omega, .inl ⟨rfl, (HI.out.2.2.2.2.put HY.out HKL.out)⟩⟩⟩
                      case measure => simp [intOf]; omega
                    · have HKL := Lib.hid (show ¬ Kl (k, y2) (y1, y2) from fun hh => by unfold Kl at hh; simp only at hh; omega)
                      have hky2 : decide (k < y1) = false := by simp only [decide_eq_false_iff_not]; exact hky
                      clear hty hty2
                      go_wp2_with (first
                        | (refine wp_app_al rfl (.tmp 86) (.tmp 91) rfl u2.heap.size _ A2 q c2 rfl HI.out.1 (HI.out.2.1.ke (K := []) ((Ke.refl _ _).alloc _) (by simp)) (y1, y2) wr.heap.size rfl ⟨by rw [(Bk.here rfl).cell]; rfl, by rw [(Bk.here rfl).cell]; rfl⟩ (by omega) (by have := HI.out.2.2.1.size; rw [World.size_alloc]; omega) (q + 1) rfl ?_; intro A5 c5 w5 k1 k2; have H5 := Lib.hid (And.intro k1 k2); clear k1 k2))
                      all_goals (first | (have hh := ‹some undef = some (Value.bool _)›; injection hh with hh; cases hh; done) | skip)
                      go_roundw
                      case rel => exact ⟨i + 1, A5, q + 1, c5, false, by omega, by go_num, rfl, rfl, Lib.hid ⟨_, by rw [List.length_append, HI.out.1]; rfl, H5.out.1, (HI.out.2.2.1.alloc HI.out.2.2.1.size _).trans H5.out.2, by have := HI.out.2.2.2.1; omega, HI.out.2.2.2.2.pass HY.out HKL.out⟩⟩
                      case measure => simp [intOf]; omega
                  · have HKL := Lib.hid (show ¬ Kl (k, t) (y1, y2) from fun hh => by unfold Kl at hh; simp only at hh; omega)
                    have hte2 : (y2 == t) = false := by simp [hte]
                    go_wp2_with (first
                      | (refine wp_app_al rfl (.tmp 86) (.tmp 91) rfl u2.heap.size _ A2 q c2 rfl HI.out.1 (HI.out.2.1.ke (K := []) ((Ke.refl _ _).alloc _) (by simp)) (y1, y2) wr.heap.size rfl ⟨by rw [(Bk.here rfl).cell]; rfl, by rw [(Bk.here rfl).cell]; rfl⟩ (by omega) (by have := HI.out.2.2.1.size; rw [World.size_alloc]; omega) (q + 1) rfl ?_; intro A5 c5 w5 k1 k2; have H5 := Lib.hid (And.intro k1 k2); clear k1 k2))
                    all_goals (first | (have hh := ‹some undef = some (Value.bool _)›; injection hh with hh; cases hh; done) | skip)
                    go_roundw
                    case rel => exact ⟨i + 1, A5, q + 1, c5, false, by omega, by go_num, rfl, rfl, Lib.hid ⟨_, by rw [List.length_append, HI.out.1]; rfl, H5.out.1, (HI.out.2.2.1.alloc HI.out.2.2.1.size _).trans H5.out.2, by have := HI.out.2.2.2.1; omega, HI.out.2.2.2.2.pass HY.out HKL.out⟩⟩
                    case measure => simp [intOf]; omega
            · have hi2 : ¬ (i : Int) < (m : Int) := by omega
              have hid : decide ((i : Int) < (m : Int)) = false := by simp only [decide_eq_false_iff_not]; omega
              have HIM := Lib.hid (show i = (outM k S).length by rw [HM.out]; omega)
              have HSB := Lib.hid (show ∀ w, Below u2.heap.size u2 w → Bk w s 42 (rcl A S.length cp now) from fun w hb => (HR.out.1.below H2.out.2.2 HR.out.1.lt).below hb (Nat.lt_of_lt_of_le HR.out.1.lt H2.out.2.2.size))
              cases dn with
              | true =>
                have HI := Lib.hid (show out.length = q ∧ OA wr u2.heap.size A2 c2 out ∧ Below u2.heap.size u2 wr ∧ insM (k, t) (outM k S) = out from ⟨r1, r2, r3, by
                  rcases r5 with ⟨_, h⟩ | ⟨h, _⟩
                  · rw [h, HIM.out, List.drop_length, List.append_nil]
                  · cases h⟩)
                have hsc := HSB.out wr r3
                obtain ⟨e0, e1⟩ := hsc.cells2
                have f0 := hsc.frozen 0
                have HSC := Lib.hid hsc
                clear r1 r2 r3 r4 r5 HR2 hsc
                go_wp2_with fail
                go_ret
                refine ⟨by rw [HE.out.1]; rfl, ?_, ?_⟩
                · rw [HE.out.2]
                  have hl : (setM k t S).length = q := by unfold setM; rw [HI.out.2.2.2]; exact HI.out.1
                  exact rk_store H.out HSC.out H.out.t0 H.out.t1 (.inr trivial) (Nat.le_trans H2.out.2.2.size HI.out.2.2.1.size) (by unfold setM; rw [HI.out.2.2.2]; exact HI.out.2.1.lower H2.out.2.2.size) hl (by rw [hl]; have := HI.out.1; have := (insM_perm (k, t) (outM k S)).length_eq; rw [HI.out.2.2.2, List.length_cons, HM.out] at this; omega)
                · exact ((Ke.of H2.out.2.2).andBelow HI.out.2.2.1 H2.out.2.2.size).nil.set (p := ⟨s, 0, none⟩) (by simp) _
              | false =>
                have HI := Lib.hid (show out.length = q ∧ OA wr u2.heap.size A2 c2 out ∧ Below u2.heap.size u2 wr ∧ insM (k, t) (outM k S) = out ++ [(k, t)] from ⟨r1, r2, r3, by
                  rcases r5 with ⟨h, _⟩ | ⟨_, h1, h2⟩
                  · cases h
                  · rw [h2, HIM.out, List.drop_length, h1, HIM.out]; rfl⟩)
                clear r1 r2 r3 r4 r5 HR2
                go_wp2_with (first
                  | (refine wp_app_al rfl (.tmp 95) (.tmp 99) rfl u2.heap.size _ A2 q c2 rfl HI.out.1 (HI.out.2.1.ke (K := []) ((Ke.refl _ _).alloc _) (by simp)) (k, t) wr.heap.size rfl ⟨by rw [(Bk.here rfl).cell]; rfl, by rw [(Bk.here rfl).cell]; rfl⟩ (by omega) (by have := HI.out.2.2.1.size; rw [World.size_alloc]; omega) (q + 1) rfl ?_; intro A4 c4 w4 k1 k2; have H4 := Lib.hid (And.intro k1 ((HI.out.2.2.1.alloc HI.out.2.2.1.size _).trans k2)); have hsc := HSB.out w4 H4.out.2; obtain ⟨e0, e1⟩ := hsc.cells2; have f0 := hsc.frozen 0; have HSC := Lib.hid hsc; clear k1 k2 hsc))
                go_ret
                refine ⟨by rw [HE.out.1]; rfl, ?_, ?_⟩
                · rw [HE.out.2]
                  have hl : (setM k t S).length = q + 1 := by unfold setM; rw [HI.out.2.2.2, List.length_append, HI.out.1]; rfl
                  exact rk_store H.out HSC.out H.out.t0 H.out.t1 (.inr trivial) (Nat.le_trans H2.out.2.2.size H4.out.2.size) (by unfold setM; rw [HI.out.2.2.2]; exact H4.out.1.lower H2.out.2.2.size) hl (by rw [hl]; have := HI.out.1; have := (insM_perm (k, t) (outM k S)).length_eq; rw [HI.out.2.2.2, List.length_append, List.length_cons, List.length_cons, HM.out] at this; simp at this; omega)
                · exact ((Ke.of H2.out.2.2).andBelow H4.out.2 H2.out.2.2.size).nil.set (p := ⟨s, 0, none⟩) (by simp) _
end Go.Proofs.Ytdfllobdefodfaa
