/- VaultGone: the walk. (Written by gen_vtlaws.py.) -/
import Derived.Test.YtijboiepockmjaaDoorVtLawW
namespace Go.Proofs.YtijboiepockmjaaDoor
set_option linter.unusedVariables false
set_option maxRecDepth 100000
set_option linter.unusedSimpArgs false
open Go.RowKit

/-- Two vaults of one configuration. -/
structure Lg (w : World) (v mb : Nat) (v2 m2 : Nat) (c : List Tn) (g g2 : Rev) (L : List (Nat × TypeId × Array Value)) (u : World) : Prop where
  a : Lv w v mb c g L u
  b : Va u v2 m2 c g2
  ne : mb ≠ m2
  l2 : w.heap.size ≤ m2
section
variable {w u u' : World} {v mb v2 m2 : Nat} {c : List Tn} {g g2 g' : Rev} {L L' : List (Nat × TypeId × Array Value)}
theorem Lg.on (h : Lg w v mb v2 m2 c g g2 L u) (hb : Below u.heap.size u u') : Lg w v mb v2 m2 c g g2 L u' := ⟨h.a.on hb, h.b.on hb, h.ne, h.l2⟩
theorem Lg.new (h : Lg w v mb v2 m2 c g g2 L u) (t : TypeId) (cs : Array Value) : Lg w v mb v2 m2 c g g2 ((u.heap.size, t, cs) :: L) (u.alloc (.cells cs t)) :=
  ⟨h.a.new t cs, h.b.on ((Below.refl _ _).alloc (Nat.le_refl _) _), h.ne, h.l2⟩
theorem Lg.less (h : Lg w v mb v2 m2 c g g2 L u) (hL : ∀ b ∈ L', b ∈ L) : Lg w v mb v2 m2 c g g2 L' u := ⟨h.a.less hL, h.b, h.ne, h.l2⟩
theorem lg_good (h : Lg w v mb v2 m2 c g g2 L u) (a b : ByteArray) (now : Int) : Calls Tryd.prog 16 #[.pointer (some ⟨v, 0, none⟩), .string a, .string b, .int .i64 now] u fun e u' => e = .returned (.bool (gdB (tkN c a b) (inR g a b) now)) ∧ Lg w v mb v2 m2 c g g2 L u' :=
  (vgood_ok u v mb c g h.a.va a b now).mono fun e u' hh => ⟨hh.1, h.on hh.2⟩
theorem lg_good2 (h : Lg w v mb v2 m2 c g g2 L u) (a b : ByteArray) (now : Int) : Calls Tryd.prog 16 #[.pointer (some ⟨v2, 0, none⟩), .string a, .string b, .int .i64 now] u fun e u' => e = .returned (.bool (gdB (tkN c a b) (inR g2 a b) now)) ∧ Lg w v mb v2 m2 c g g2 L u' :=
  (vgood_ok u v2 m2 c g2 h.b a b now).mono fun e u' hh => ⟨hh.1, h.on hh.2⟩
theorem lg_rev (h : Lg w v mb v2 m2 c g g2 L u) (hg : g.length ≤ 1099511627776) (a b : ByteArray) : Calls Tryd.prog 14 #[.pointer (some ⟨v, 0, none⟩), .string a, .string b] u fun e u' => e = .returned (.bool (rvB (tkN c a b) (inR g a b))) ∧ Lg w v mb v2 m2 c (rvG (tkN c a b) g a b) g2 L u' :=
  (lv_rev h.a hg a b).mono fun e u' hh => ⟨hh.1.1, hh.1.2, h.b.other hh.2 h.a.va.mp (fun e => h.ne e.symm), h.ne, h.l2⟩
theorem lg_rev2 (h : Lg w v mb v2 m2 c g g2 L u) (hg : g2.length ≤ 1099511627776) (a b : ByteArray) : Calls Tryd.prog 14 #[.pointer (some ⟨v2, 0, none⟩), .string a, .string b] u fun e u' => e = .returned (.bool (rvB (tkN c a b) (inR g2 a b))) ∧ Lg w v mb v2 m2 c g (rvG (tkN c a b) g2 a b) L u' :=
  (vrev_ok u v2 m2 c g2 h.b hg a b).mono fun e u' hh => by
    obtain ⟨h1, h2, k⟩ := hh
    obtain ⟨es, ck, he⟩ := h.b.mp.block
    exact ⟨h1, ⟨h.a.va.other k h.b.mp h.ne, fun b hL => (h.a.kb b hL).keM k he, h.a.l.trans (k.below h.a.l.size (fun x hx => by obtain rfl := List.mem_singleton.1 hx; exact h.l2)), h.a.lv⟩, h2, h.ne, h.l2⟩
end
/-- What is kept of what is revoked in the two: the one token is none in the first; all others are alike. -/
structure Gn (c : List Tn) (s t : ByteArray) (g g2 : Rev) : Prop where
  own : ∀ k, tkN c s t = some k → inR g s t = true
  oth : ∀ a b, ¬ (a = s ∧ b = t) → inR g a b = inR g2 a b
theorem inR_rv {o : Option Tk} {g : Rev} {a b x y : ByteArray} : inR (rvG o g a b) x y = ((o.isSome && (nmEq a x && nmEq b y)) || inR g x y) := by
  unfold rvG
  split
  · simp
  · rw [inR_cons]; simp
theorem Gn.start (c : List Tn) (s t : ByteArray) : Gn c s t (rvG (tkN c s t) [] s t) [] := ⟨fun k hk => by rw [inR_rv, hk, nmEq_iff.2 rfl, nmEq_iff.2 rfl]; rfl, fun a b h => by
  rw [inR_rv]
  have : (nmEq s a && nmEq t b) = false := by
    cases hq : (nmEq s a && nmEq t b)
    · rfl
    · rw [Bool.and_eq_true, nmEq_iff, nmEq_iff] at hq
      exact absurd ⟨hq.1.symm, hq.2.symm⟩ h
  rw [this]; simp⟩
theorem Gn.both {c : List Tn} {s t : ByteArray} {g g2 : Rev} (h : Gn c s t g g2) (a b : ByteArray) : Gn c s t (rvG (tkN c a b) g a b) (rvG (tkN c a b) g2 a b) :=
  ⟨fun k hk => by rw [inR_rv, h.own k hk, Bool.or_true], fun x y hn => by rw [inR_rv, inR_rv, h.oth x y hn]⟩
theorem Gn.self {c : List Tn} {s t : ByteArray} {g g2 : Rev} (h : Gn c s t g g2) : Gn c s t (rvG (tkN c s t) g s t) g2 :=
  ⟨fun k hk => by rw [inR_rv, h.own k hk, Bool.or_true], fun x y hn => by
    rw [inR_rv]
    have : (nmEq s x && nmEq t y) = false := by
      cases hq : (nmEq s x && nmEq t y)
      · rfl
      · rw [Bool.and_eq_true, nmEq_iff, nmEq_iff] at hq
        exact absurd ⟨hq.1.symm, hq.2.symm⟩ hn
    rw [this, Bool.and_false, Bool.false_or]; exact h.oth x y hn⟩
theorem Gn.good {c : List Tn} {s t : ByteArray} {g g2 : Rev} (h : Gn c s t g g2) (now : Int) : gdB (tkN c s t) (inR g s t) now = false := by
  cases hk : tkN c s t with
  | none => rfl
  | some k => rw [h.own k hk]; rfl
theorem Gn.rev {c : List Tn} {s t : ByteArray} {g g2 : Rev} (h : Gn c s t g g2) : rvB (tkN c s t) (inR g s t) = false := by
  cases hk : tkN c s t with
  | none => rfl
  | some k => rw [h.own k hk]; rfl
theorem rv_len2 {o : Option Tk} {g : Rev} {a b : ByteArray} : (rvG o g a b).length ≤ g.length + 1 := rv_len (Nat.le_refl _)

set_option maxRecDepth 100000 in
set_option maxHeartbeats 16000000 in
theorem walk_VaultGone (x : Cv) (s t : ByteArray) (B : Option Addr) (lo : List Vo) (d : Nat) (w : World) (h : InCf w x) (hs : s.size ≤ 140737488355328) (ht : t.size ≤ 140737488355328) (ho : InOps w B lo d) (hG : Gl w) :
    Calls Tryd.prog 5 #[.agg (ccs x), .string s, .string t, .slice B lo.length d] w fun e w' => e = .returned (.bool true) ∧ Below w.heap.size w w' := by
  have HGR := Lib.hid (fun u (hu : Below w.heap.size w u) => great_ok x u (h.on hu))
  have HN0 := Lib.hid (fun (hc : cfgB x.cg = false) => vnew_no h.rc hc)
  have HN1 := Lib.hid (fun (hc : cfgB x.cg = true) => vnew_yes h.rc hc)
  have HRT := Lib.hid h.rc.r
  have HMX := Lib.hid h.rc.f.max
  have HCP := Lib.hid h.rc.f.cap
  have HSE := Lib.hid (fun (hc : cfgB x.cg = true) (a b : ByteArray) k (hk : tkN x.cg.tens a b = some k) => (tkN_till hc hk).2.2.2)
  have HTN := Lib.hid (show ∀ a b, tkT x.ts a b = tkN x.cg.tens a b from fun a b => tkT_is _ _ _)
  have HGO := Lib.hid (fun u (hu : Below w.heap.size w u) => vgreat_ok B lo d u (ho.on hu))
  have HOP := Lib.hid ho
  obtain ⟨C, hC⟩ : ∃ C, cfgB x.cg = C := ⟨_, rfl⟩
  simp only [hC] at HN0 HN1 HSE
  obtain ⟨tn, htn⟩ : ∃ tn, x.cg.tens = tn := ⟨_, rfl⟩
  rw [htn] at HN1 HSE HTN
  obtain ⟨a0, a1, a2, a3, ts, A, c⟩ := x
  obtain ⟨n, hn⟩ : ∃ n, ts.length = n := ⟨_, rfl⟩
  have HN := Lib.hid hn
  dsimp only at HRT HMX HCP HTN
  simp only [ccs, hn] at HGR HN0 HN1 ⊢
  have HX := Lib.hid (show Bx w w.heap.size 24 #[.int .i64 a0, .int .i64 a1, .int .i64 a2, .int .i64 a3, .slice A n c] (w.alloc (.cells #[.int .i64 a0, .int .i64 a1, .int .i64 a2, .int .i64 a3, .slice A n c] 24)) from Bx.new w _ _)
  have HG := Lib.hid hG
  clear h hn hC htn hG
  obtain ⟨nl, hnl⟩ : ∃ k, lo.length = k := ⟨_, rfl⟩
  have HNL := Lib.hid hnl
  have hnl47 : nl ≤ 140737488355328 := by rw [← hnl]; exact ho.n
  rw [hnl] at HGO ⊢
  clear hnl ho
  obtain ⟨m, hm⟩ : ∃ m : Nat, (s.size : Int) + (t.size : Int) = (m : Int) := ⟨s.size + t.size, by omega⟩
  have hm47 : m ≤ 562949953421312 := by omega
  have HSZ := Lib.hid (And.intro hs (And.intro ht hm))
  go_enter Tryd.func5, Tryd.ntmps5
  go_upto_region 2 with (go_at_call 9; refine (vhead_ok _ (HG.out.below HX.out.l HG.out.size)).mono ?_; rintro e u1 ⟨rfl, hb⟩; have HX1 := Lib.hid (HX.out.on hb); clear hb)
  obtain ⟨g0, hg0⟩ : ∃ g, w.heap.size = g := ⟨_, rfl⟩
  have HG0 := Lib.hid hg0
  rw [hg0] at HX1 ⊢
  clear hg0
  have e0 : u1.cell? ⟨g0, 0, none⟩ = some (.int .i64 a0) := HX1.out.b.cell 0
  have e1 : u1.cell? ⟨g0, 1, none⟩ = some (.int .i64 a1) := HX1.out.b.cell 1
  have e2 : u1.cell? ⟨g0, 2, none⟩ = some (.int .i64 a2) := HX1.out.b.cell 2
  have e3 : u1.cell? ⟨g0, 3, none⟩ = some (.int .i64 a3) := HX1.out.b.cell 3
  have e4 : u1.cell? ⟨g0, 4, none⟩ = some (.slice A n c) := HX1.out.b.cell 4
  cases C with
  | false =>
    go_wp2_with (first
      | (go_at_call 12; (with_reducible refine (HN0.out (by first | rfl | trivial) _ HX1.out.l).mono ?_); rintro e u2 ⟨rfl, hb⟩; have HX2 := Lib.hid (HX1.out.on hb); clear hb e0 e1 e2 e3 e4; have e0 : u2.cell? ⟨g0, 0, none⟩ = some (.int .i64 a0) := HX2.out.b.cell 0; have e1 : u2.cell? ⟨g0, 1, none⟩ = some (.int .i64 a1) := HX2.out.b.cell 1; have e2 : u2.cell? ⟨g0, 2, none⟩ = some (.int .i64 a2) := HX2.out.b.cell 2; have e3 : u2.cell? ⟨g0, 3, none⟩ = some (.int .i64 a3) := HX2.out.b.cell 3; have e4 : u2.cell? ⟨g0, 4, none⟩ = some (.slice A n c) := HX2.out.b.cell 4)
      | (go_at_call 12; (with_reducible refine (HN0.out (by first | rfl | trivial) _ HX2.out.l).mono ?_); rintro e u3 ⟨rfl, hb⟩; have HX3 := Lib.hid (HX2.out.on hb); clear hb))
    go_ret
    exact ⟨rfl, HX3.out.l⟩
  | true =>
    go_upto_region 3 with (go_at_call 12; (with_reducible refine (HN1.out (by first | rfl | trivial) _ HX1.out.l [(g0, 24, #[.int .i64 a0, .int .i64 a1, .int .i64 a2, .int .i64 a3, .slice A n c])] (fun b hb => by obtain rfl := List.mem_singleton.1 hb; exact HX1.out.b)).mono ?_); rintro e u2 ⟨v, mb, rfl, hv, _, _, _⟩; have HV2 := Lib.hid hv; clear hv)
    clear e0 e1 e2 e3 e4
    have e0 : u2.cell? ⟨g0, 0, none⟩ = some (.int .i64 a0) := HV2.out.head.cell 0
    have e1 : u2.cell? ⟨g0, 1, none⟩ = some (.int .i64 a1) := HV2.out.head.cell 1
    have e2 : u2.cell? ⟨g0, 2, none⟩ = some (.int .i64 a2) := HV2.out.head.cell 2
    have e3 : u2.cell? ⟨g0, 3, none⟩ = some (.int .i64 a3) := HV2.out.head.cell 3
    have e4 : u2.cell? ⟨g0, 4, none⟩ = some (.slice A n c) := HV2.out.head.cell 4
    have HLT := Lib.hid HV2.out.va.mp.lt
    go_upto_region 4 with (go_at_call 12; (with_reducible refine (HN1.out (by first | rfl | trivial) _ HV2.out.l [] (fun b hb => absurd hb List.not_mem_nil)).mono ?_); rintro e u3 ⟨v2, m2, rfl, hv, _, hle, hb⟩; have HG3 := Lib.hid (show Lg w v mb v2 m2 tn [] [] [(g0, 24, #[.int .i64 a0, .int .i64 a1, .int .i64 a2, .int .i64 a3, .slice A n c])] u3 from ⟨HV2.out.on hb, hv.va, by have := HLT.out; omega, hv.lv⟩); clear hv hle hb)
    clear e0 e1 e2 e3 e4
    have e0 : u3.cell? ⟨g0, 0, none⟩ = some (.int .i64 a0) := HG3.out.a.head.cell 0
    have e1 : u3.cell? ⟨g0, 1, none⟩ = some (.int .i64 a1) := HG3.out.a.head.cell 1
    have e2 : u3.cell? ⟨g0, 2, none⟩ = some (.int .i64 a2) := HG3.out.a.head.cell 2
    have e3 : u3.cell? ⟨g0, 3, none⟩ = some (.int .i64 a3) := HG3.out.a.head.cell 3
    have e4 : u3.cell? ⟨g0, 4, none⟩ = some (.slice A n c) := HG3.out.a.head.cell 4
    by_cases hm1 : m ≤ 2000
    · have hm2 : ¬ (2000 : Int) < (m : Int) := by omega
      have hm3 : ¬ (m : Int) > 2000 := by omega
      go_upto_region 6 with (first
        | (go_at_call 10; (with_reducible refine (HGR.out _ HG3.out.a.l).mono ?_); rintro e u4 ⟨g, rfl, _, hb⟩; have HG4 := Lib.hid (HG3.out.on hb); clear hb; cases g)
        | (go_at_call 11; (with_reducible refine (HGO.out _ HG4.out.a.l).mono ?_); rintro e u5 ⟨g2, rfl, hob, hb⟩; have HG5 := Lib.hid (HG4.out.on hb); have HOB := Lib.hid hob; clear hb hob; cases g2))
      any_goals (go_ret; first | exact ⟨rfl, HG4.out.a.l⟩ | exact ⟨rfl, HG5.out.a.l⟩)
      have HOB2 := Lib.hid (show OpsB lo from HOB.out (by first | rfl | trivial))
      clear HOB e0 e1 e2 e3 e4
      go_wp2_with (go_at_call 14; (with_reducible refine (lg_rev HG5.out (by decide) s t).mono ?_); rintro e u6 ⟨rfl, hv⟩; have HG6 := Lib.hid hv; clear hv)
      have HQ0 := Lib.hid (Gn.start tn s t)
      have HL0 := Lib.hid (show (rvG (tkN tn s t) [] s t).length ≤ 1 from rv_len2)
      obtain ⟨gs, hgs⟩ : ∃ gs, rvG (tkN tn s t) [] s t = gs := ⟨_, rfl⟩
      rw [hgs] at HG6 HQ0 HL0
      clear hgs
      go_loopw [12] (fun v12 wr => ∃ (i : Nat) (g g2 : Rev), i ≤ nl ∧ v12 = .int .i64 (i : Int) ∧ Hid (g.length ≤ 2 * i + 1 ∧ g2.length ≤ i) ∧ Hid (Gn tn s t g g2) ∧ Hid (Lg w v mb v2 m2 tn g g2 [(g0, 24, #[.int .i64 a0, .int .i64 a1, .int .i64 a2, .int .i64 a3, .slice A n c])] wr)) (fun v12 _ => nl - (intOf v12).toNat)
      case atStart => exact ⟨0, gs, [], by omega, rfl, Lib.hid ⟨HL0.out, Nat.le_refl _⟩, HQ0, HG6⟩
      case round =>
        obtain ⟨i, g, g2, hi, rfl, HGL, HQ, HV⟩ := hrel
        by_cases hi1 : i < nl
        · have hi2 : (i : Int) < (nl : Int) := by omega
          obtain ⟨b, o, x, rfl, hx, hsm, hc⟩ := HOP.out.at6 i (by rw [HNL.out]; exact hi1)
          obtain ⟨c0, c1, c2, c3, c4, c5⟩ := hc wr HV.out.a.l
          obtain ⟨xw, xt, xk, xn, xp, xo⟩ := x
          dsimp only at c0 c1 c2 c3 c4 c5
          have HB1 := Lib.hid (show g.length + 2 ≤ 1099511627776 ∧ g2.length + 2 ≤ 1099511627776 by have h1 := HGL.out; have h2 := HOB2.out.n; rw [HNL.out] at h2; omega)
          clear hc hx hsm
          obtain ⟨wo, hwo⟩ : ∃ wo, wr = wo := ⟨_, rfl⟩
          subst wr
          go_upto_region 11 with fail
          clear c0 c1 c2 c3 c4 c5
          have HVN := Lib.hid (HV.out.new 34 #[.int .i64 xw, .string xt, .string xk, .string xn, .string xp, .int .i64 xo])
          obtain ⟨wn, hwn⟩ : ∃ wn, wo.alloc (.cells #[.int .i64 xw, .string xt, .string xk, .string xn, .string xp, .int .i64 xo] 34) = wn := ⟨_, rfl⟩
          obtain ⟨gb, hgb⟩ : ∃ gb, wo.heap.size = gb := ⟨_, rfl⟩
          rw [hwn, hgb] at HVN
          rw [hwn] ; try rw [hgb]
          clear hwn hgb
          have d0 : wn.cell? ⟨gb, 0, none⟩ = some (.int .i64 xw) := HVN.out.a.head.cell 0
          have d1 : wn.cell? ⟨gb, 1, none⟩ = some (.string xt) := HVN.out.a.head.cell 1
          have d2 : wn.cell? ⟨gb, 2, none⟩ = some (.string xk) := HVN.out.a.head.cell 2
          by_cases hw0 : xw = 0
          · subst hw0
            go_upto_region 14 with (first
              | (go_at_call 14; (with_reducible refine (lg_rev HVN.out (by have := HB1.out; omega) xt xk).mono ?_); rintro e u7 ⟨rfl, hv⟩; have HG7 := Lib.hid hv; clear hv; have d1 : u7.cell? ⟨gb, 1, none⟩ = some (.string xt) := HG7.out.a.head.cell 1; have d2 : u7.cell? ⟨gb, 2, none⟩ = some (.string xk) := HG7.out.a.head.cell 2)
              | (go_at_call 14; (with_reducible refine (lg_rev2 HG7.out (by have := HB1.out; omega) xt xk).mono ?_); rintro e u8 ⟨rfl, hv⟩; have HG8 := Lib.hid hv; clear hv))
            clear d0 d1 d2
            have HQ8 := Lib.hid (HQ.out.both xt xk)
            have HL8 := Lib.hid (show (rvG (tkN tn xt xk) g xt xk).length ≤ 2 * i + 2 ∧ (rvG (tkN tn xt xk) g2 xt xk).length ≤ i + 1 by have h1 := HGL.out; have h2 := @rv_len2 (tkN tn xt xk) g xt xk; have h3 := @rv_len2 (tkN tn xt xk) g2 xt xk; omega)
            have HB8 := Lib.hid (show (rvG (tkN tn xt xk) g xt xk).length ≤ 1099511627776 by have h1 := HB1.out; have h2 := @rv_len2 (tkN tn xt xk) g xt xk; omega)
            obtain ⟨h1g, e1g⟩ : ∃ z, rvG (tkN tn xt xk) g xt xk = z := ⟨_, rfl⟩
            obtain ⟨h2g, e2g⟩ : ∃ z, rvG (tkN tn xt xk) g2 xt xk = z := ⟨_, rfl⟩
            rw [e1g, e2g] at HG8 HQ8 HL8
            rw [e1g] at HB8
            clear e1g e2g HQ HGL HB1 HG7 HVN HV
            have d1 : u8.cell? ⟨gb, 1, none⟩ = some (.string xt) := HG8.out.a.head.cell 1
            have d2 : u8.cell? ⟨gb, 2, none⟩ = some (.string xk) := HG8.out.a.head.cell 2
            have d5 : u8.cell? ⟨gb, 5, none⟩ = some (.int .i64 xo) := HG8.out.a.head.cell 5
            have HQ9 := Lib.hid HQ8.out.self
            have HGD := Lib.hid (show ∀ u, Lg w v mb v2 m2 tn h1g h2g [(gb, 34, #[.int .i64 0, .string xt, .string xk, .string xn, .string xp, .int .i64 xo]), (g0, 24, #[.int .i64 a0, .int .i64 a1, .int .i64 a2, .int .i64 a3, .slice A n c])] u → Calls Tryd.prog 16 #[.pointer (some ⟨v, 0, none⟩), .string s, .string t, .int .i64 xo] u fun e u' => e = .returned (.bool false) ∧ Lg w v mb v2 m2 tn h1g h2g [(gb, 34, #[.int .i64 0, .string xt, .string xk, .string xn, .string xp, .int .i64 xo]), (g0, 24, #[.int .i64 a0, .int .i64 a1, .int .i64 a2, .int .i64 a3, .slice A n c])] u' from fun u hu => (lg_good hu s t xo).mono fun e u' hh => ⟨by rw [hh.1, HQ8.out.good], hh.2⟩)
            have HRV := Lib.hid (show ∀ u, Lg w v mb v2 m2 tn h1g h2g [(gb, 34, #[.int .i64 0, .string xt, .string xk, .string xn, .string xp, .int .i64 xo]), (g0, 24, #[.int .i64 a0, .int .i64 a1, .int .i64 a2, .int .i64 a3, .slice A n c])] u → Calls Tryd.prog 14 #[.pointer (some ⟨v, 0, none⟩), .string s, .string t] u fun e u' => e = .returned (.bool false) ∧ Lg w v mb v2 m2 tn (rvG (tkN tn s t) h1g s t) h2g [(gb, 34, #[.int .i64 0, .string xt, .string xk, .string xn, .string xp, .int .i64 xo]), (g0, 24, #[.int .i64 a0, .int .i64 a1, .int .i64 a2, .int .i64 a3, .slice A n c])] u' from fun u hu => (lg_rev hu HB8.out s t).mono fun e u' hh => ⟨by rw [hh.1, HQ8.out.rev], hh.2⟩)
            have HL9 := Lib.hid (show (rvG (tkN tn s t) h1g s t).length ≤ 2 * (i + 1) + 1 ∧ h2g.length ≤ i + 1 by have h1 := HL8.out; have h2 := @rv_len2 (tkN tn s t) h1g s t; omega)
            obtain ⟨gg, hgg⟩ : ∃ gg, rvG (tkN tn s t) h1g s t = gg := ⟨_, rfl⟩
            rw [hgg] at HQ9 HL9
            simp only [hgg] at HRV
            clear hgg
            have HOT := Lib.hid (show ¬ (xt = s ∧ xk = t) → ∃ gx, (∀ u, Lg w v mb v2 m2 tn gg h2g [(gb, 34, #[.int .i64 0, .string xt, .string xk, .string xn, .string xp, .int .i64 xo]), (g0, 24, #[.int .i64 a0, .int .i64 a1, .int .i64 a2, .int .i64 a3, .slice A n c])] u → Calls Tryd.prog 16 #[.pointer (some ⟨v, 0, none⟩), .string xt, .string xk, .int .i64 xo] u fun e u' => e = .returned (.bool gx) ∧ Lg w v mb v2 m2 tn gg h2g [(gb, 34, #[.int .i64 0, .string xt, .string xk, .string xn, .string xp, .int .i64 xo]), (g0, 24, #[.int .i64 a0, .int .i64 a1, .int .i64 a2, .int .i64 a3, .slice A n c])] u') ∧ ∀ u, Lg w v mb v2 m2 tn gg h2g [(gb, 34, #[.int .i64 0, .string xt, .string xk, .string xn, .string xp, .int .i64 xo]), (g0, 24, #[.int .i64 a0, .int .i64 a1, .int .i64 a2, .int .i64 a3, .slice A n c])] u → Calls Tryd.prog 16 #[.pointer (some ⟨v2, 0, none⟩), .string xt, .string xk, .int .i64 xo] u fun e u' => e = .returned (.bool gx) ∧ Lg w v mb v2 m2 tn gg h2g [(gb, 34, #[.int .i64 0, .string xt, .string xk, .string xn, .string xp, .int .i64 xo]), (g0, 24, #[.int .i64 a0, .int .i64 a1, .int .i64 a2, .int .i64 a3, .slice A n c])] u' from fun hn => ⟨_, fun u hu => lg_good hu xt xk xo, fun u hu => (lg_good2 hu xt xk xo).mono fun e u' hh => ⟨by rw [hh.1, HQ9.out.oth xt xk hn], hh.2⟩⟩)
            have HEQ := Lib.hid (show ∀ a b : ByteArray, (a.toList == b.toList) = true → a = b from fun a b h => nmEq_iff.1 h)
            cases hp1 : (xt.toList == s.toList) with
            | false =>
              obtain ⟨gx, hx1, hx2⟩ := HOT.out (fun e => by rw [e.1, beq_self_eq_true] at hp1; cases hp1)
              go_upto_region 15 with fail
              clear d1 d2 d5
              try simp only [List.cons_append, List.nil_append]
              refine wp_region_held_drew (S := fun wz => Bk wz gb 34 #[.int .i64 0, .string xt, .string xk, .string xn, .string xp, .int .i64 xo]) (by kernel_rfl) (HG8.out.a.head.drew) (fun hHeld => ?_)
              refine take_at (some 82) (i := 0) (v := ?_) rfl rfl (by kernel_rfl) (by kernel_rfl) (by kernel_rfl) (fun _ _ _ h => h) (Or.inl ⟨by kernel_rfl, ?_⟩) hHeld ?_
              rotate_left
              · intro wz hSw; have k1 : wz.cell? ⟨gb, 1, none⟩ = some (.string xt) := hSw.cell 1; have k2 : wz.cell? ⟨gb, 2, none⟩ = some (.string xk) := hSw.cell 2; have k5 : wz.cell? ⟨gb, 5, none⟩ = some (.int .i64 xo) := hSw.cell 5; go_simp; try (with_reducible rfl)
              try simp only [Act.put, List.setIfInBounds_toArray, List.set_cons_zero, List.set_cons_succ, List.getElem_toArray, List.getElem_cons_succ, List.getElem_cons_zero]
              refine take_at (some 83) (i := 1) (v := ?_) rfl rfl (by kernel_rfl) (by kernel_rfl) (by kernel_rfl) (fun _ _ _ h => h) (Or.inl ⟨by kernel_rfl, ?_⟩) hHeld ?_
              rotate_left
              · intro wz hSw; have k1 : wz.cell? ⟨gb, 1, none⟩ = some (.string xt) := hSw.cell 1; have k2 : wz.cell? ⟨gb, 2, none⟩ = some (.string xk) := hSw.cell 2; have k5 : wz.cell? ⟨gb, 5, none⟩ = some (.int .i64 xo) := hSw.cell 5; go_simp; try (with_reducible rfl)
              try simp only [Act.put, List.setIfInBounds_toArray, List.set_cons_zero, List.set_cons_succ, List.getElem_toArray, List.getElem_cons_succ, List.getElem_cons_zero]
              refine take_at (some 84) (i := 2) (v := ?_) rfl rfl (by kernel_rfl) (by kernel_rfl) (by kernel_rfl) (fun _ _ _ h => h) (Or.inl ⟨by kernel_rfl, ?_⟩) hHeld ?_
              rotate_left
              · intro wz hSw; have k1 : wz.cell? ⟨gb, 1, none⟩ = some (.string xt) := hSw.cell 1; have k2 : wz.cell? ⟨gb, 2, none⟩ = some (.string xk) := hSw.cell 2; have k5 : wz.cell? ⟨gb, 5, none⟩ = some (.int .i64 xo) := hSw.cell 5; go_simp; try (with_reducible rfl)
              try simp only [Act.put, List.setIfInBounds_toArray, List.set_cons_zero, List.set_cons_succ, List.getElem_toArray, List.getElem_cons_succ, List.getElem_cons_zero]
              refine take_at (some 85) (i := 3) (v := ?_) rfl rfl (by kernel_rfl) (by kernel_rfl) (by kernel_rfl) (fun _ _ _ h => h) (Or.inl ⟨by kernel_rfl, ?_⟩) hHeld ?_
              rotate_left
              · intro wz hSw; have k1 : wz.cell? ⟨gb, 1, none⟩ = some (.string xt) := hSw.cell 1; have k2 : wz.cell? ⟨gb, 2, none⟩ = some (.string xk) := hSw.cell 2; have k5 : wz.cell? ⟨gb, 5, none⟩ = some (.int .i64 xo) := hSw.cell 5; go_simp; try (with_reducible rfl)
              try simp only [Act.put, List.setIfInBounds_toArray, List.set_cons_zero, List.set_cons_succ, List.getElem_toArray, List.getElem_cons_succ, List.getElem_cons_zero]
              refine take_at (some 86) (i := 4) (v := ?_) rfl rfl (by kernel_rfl) (by kernel_rfl) (by kernel_rfl) (fun _ _ _ h => h) (Or.inl ⟨by kernel_rfl, ?_⟩) hHeld ?_
              rotate_left
              · intro wz hSw; have k1 : wz.cell? ⟨gb, 1, none⟩ = some (.string xt) := hSw.cell 1; have k2 : wz.cell? ⟨gb, 2, none⟩ = some (.string xk) := hSw.cell 2; have k5 : wz.cell? ⟨gb, 5, none⟩ = some (.int .i64 xo) := hSw.cell 5; go_simp; try (with_reducible rfl)
              try simp only [Act.put, List.setIfInBounds_toArray, List.set_cons_zero, List.set_cons_succ, List.getElem_toArray, List.getElem_cons_succ, List.getElem_cons_zero]
              refine wpAnyH_ready (rs := [5]) (by kernel_rfl) (by simp) (AllReadyH.cons rfl (fun K hK => ?_) AllReadyH.nil)
              rw [if_pos (by kernel_rfl)]
              go_simp
              refine (HGD.out _ (HG8.out.on (Below.refl u8.heap.size u8).drew)).mono ?_
              rintro e y1 ⟨rfl, hy1⟩
              try dsimp only
              refine hK.out _ _ (hy1.a.head) (fun hHeld => ?_)
              try simp only [Act.put, List.setIfInBounds_toArray, List.set_cons_zero, List.set_cons_succ, List.getElem_toArray, List.getElem_cons_succ, List.getElem_cons_zero]
              refine take_at (some 88) (i := 6) (v := ?_) rfl rfl (by kernel_rfl) (by kernel_rfl) (by kernel_rfl) (fun _ _ _ h => h) (Or.inl ⟨by kernel_rfl, ?_⟩) hHeld ?_
              rotate_left
              · intro wz hSw; go_simp; try (with_reducible rfl)
              try simp only [Act.put, List.setIfInBounds_toArray, List.set_cons_zero, List.set_cons_succ, List.getElem_toArray, List.getElem_cons_succ, List.getElem_cons_zero]
              refine take_at (some 89) (i := 7) (v := ?_) rfl rfl (by kernel_rfl) (by kernel_rfl) (by kernel_rfl) (fun _ _ _ h => h) (Or.inl ⟨by kernel_rfl, ?_⟩) hHeld ?_
              rotate_left
              · intro wz hSw; go_simp; try (with_reducible rfl)
              try simp only [Act.put, List.setIfInBounds_toArray, List.set_cons_zero, List.set_cons_succ, List.getElem_toArray, List.getElem_cons_succ, List.getElem_cons_zero]
              refine take_at (some 90) (i := 8) (v := ?_) rfl rfl (by kernel_rfl) (by kernel_rfl) (by kernel_rfl) (fun _ _ _ h => h) (Or.inl ⟨by kernel_rfl, ?_⟩) hHeld ?_
              rotate_left
              · intro wz hSw; go_simp; try (with_reducible rfl)
              try simp only [Act.put, List.setIfInBounds_toArray, List.set_cons_zero, List.set_cons_succ, List.getElem_toArray, List.getElem_cons_succ, List.getElem_cons_zero]
              refine take_at (some 91) (i := 9) (v := ?_) rfl rfl (by kernel_rfl) (by kernel_rfl) (by kernel_rfl) (fun _ _ _ h => h) (Or.inl ⟨by kernel_rfl, ?_⟩) hHeld ?_
              rotate_left
              · intro wz hSw; go_simp; try (with_reducible rfl)
              try simp only [Act.put, List.setIfInBounds_toArray, List.set_cons_zero, List.set_cons_succ, List.getElem_toArray, List.getElem_cons_succ, List.getElem_cons_zero]
              refine wpAnyH_ready (rs := [10]) (by kernel_rfl) (by simp) (AllReadyH.cons rfl (fun K hK => ?_) AllReadyH.nil)
              rw [if_pos (by kernel_rfl)]
              go_simp
              refine (HRV.out _ hy1).mono ?_
              rintro e y2 ⟨rfl, hy2⟩
              try dsimp only
              refine hK.out _ _ (hy2.a.head) (fun hHeld => ?_)
              try simp only [Act.put, List.setIfInBounds_toArray, List.set_cons_zero, List.set_cons_succ, List.getElem_toArray, List.getElem_cons_succ, List.getElem_cons_zero]
              refine take_at (some 93) (i := 11) (v := ?_) rfl rfl (by kernel_rfl) (by kernel_rfl) (by kernel_rfl) (fun _ _ _ h => h) (Or.inl ⟨by kernel_rfl, ?_⟩) hHeld ?_
              rotate_left
              · intro wz hSw; go_simp; try (with_reducible rfl)
              try simp only [Act.put, List.setIfInBounds_toArray, List.set_cons_zero, List.set_cons_succ, List.getElem_toArray, List.getElem_cons_succ, List.getElem_cons_zero]
              refine take_at (some 94) (i := 12) (v := ?_) rfl rfl (by kernel_rfl) (by kernel_rfl) (by kernel_rfl) (fun _ _ _ h => h) (Or.inl ⟨by kernel_rfl, ?_⟩) hHeld ?_
              rotate_left
              · intro wz hSw; go_simp; try (with_reducible rfl)
              try simp only [Act.put, List.setIfInBounds_toArray, List.set_cons_zero, List.set_cons_succ, List.getElem_toArray, List.getElem_cons_succ, List.getElem_cons_zero]
              refine take_at (some 95) (i := 13) (v := ?_) rfl rfl (by kernel_rfl) (by kernel_rfl) (by kernel_rfl) (fun _ _ _ h => h) (Or.inl ⟨by kernel_rfl, ?_⟩) hHeld ?_
              rotate_left
              · intro wz hSw; go_simp; try (with_reducible rfl)
              try simp only [Act.put, List.setIfInBounds_toArray, List.set_cons_zero, List.set_cons_succ, List.getElem_toArray, List.getElem_cons_succ, List.getElem_cons_zero]
              refine take_at (some 96) (i := 14) (v := ?_) rfl rfl (by kernel_rfl) (by kernel_rfl) (by kernel_rfl) (fun _ _ _ h => h) (Or.inl ⟨by kernel_rfl, ?_⟩) hHeld ?_
              rotate_left
              · intro wz hSw; go_simp; try (with_reducible rfl)
              try simp only [Act.put, List.setIfInBounds_toArray, List.set_cons_zero, List.set_cons_succ, List.getElem_toArray, List.getElem_cons_succ, List.getElem_cons_zero]
              refine take_at (some 97) (i := 15) (v := ?_) rfl rfl (by kernel_rfl) (by kernel_rfl) (by kernel_rfl) (fun _ _ _ h => h) (Or.inl ⟨by kernel_rfl, ?_⟩) hHeld ?_
              rotate_left
              · intro wz hSw; go_simp; try (with_reducible rfl)
              try simp only [Act.put, List.setIfInBounds_toArray, List.set_cons_zero, List.set_cons_succ, List.getElem_toArray, List.getElem_cons_succ, List.getElem_cons_zero]
              refine take_at (some 98) (i := 16) (v := ?_) rfl rfl (by kernel_rfl) (by kernel_rfl) (by kernel_rfl) (fun _ _ _ h => h) (Or.inl ⟨by kernel_rfl, ?_⟩) hHeld ?_
              rotate_left
              · intro wz hSw; have k1 : wz.cell? ⟨gb, 1, none⟩ = some (.string xt) := hSw.cell 1; have k2 : wz.cell? ⟨gb, 2, none⟩ = some (.string xk) := hSw.cell 2; have k5 : wz.cell? ⟨gb, 5, none⟩ = some (.int .i64 xo) := hSw.cell 5; go_simp; try (with_reducible rfl)
              try simp only [Act.put, List.setIfInBounds_toArray, List.set_cons_zero, List.set_cons_succ, List.getElem_toArray, List.getElem_cons_succ, List.getElem_cons_zero]
              refine take_at (some 99) (i := 17) (v := ?_) rfl rfl (by kernel_rfl) (by kernel_rfl) (by kernel_rfl) (fun _ _ _ h => h) (Or.inl ⟨by kernel_rfl, ?_⟩) hHeld ?_
              rotate_left
              · intro wz hSw; have k1 : wz.cell? ⟨gb, 1, none⟩ = some (.string xt) := hSw.cell 1; have k2 : wz.cell? ⟨gb, 2, none⟩ = some (.string xk) := hSw.cell 2; have k5 : wz.cell? ⟨gb, 5, none⟩ = some (.int .i64 xo) := hSw.cell 5; go_simp; try (with_reducible rfl)
              try simp only [Act.put, List.setIfInBounds_toArray, List.set_cons_zero, List.set_cons_succ, List.getElem_toArray, List.getElem_cons_succ, List.getElem_cons_zero]
              refine take_at (some 100) (i := 18) (v := ?_) rfl rfl (by kernel_rfl) (by kernel_rfl) (by kernel_rfl) (fun _ _ _ h => h) (Or.inl ⟨by kernel_rfl, ?_⟩) hHeld ?_
              rotate_left
              · intro wz hSw; have k1 : wz.cell? ⟨gb, 1, none⟩ = some (.string xt) := hSw.cell 1; have k2 : wz.cell? ⟨gb, 2, none⟩ = some (.string xk) := hSw.cell 2; have k5 : wz.cell? ⟨gb, 5, none⟩ = some (.int .i64 xo) := hSw.cell 5; go_simp; try (with_reducible rfl)
              try simp only [Act.put, List.setIfInBounds_toArray, List.set_cons_zero, List.set_cons_succ, List.getElem_toArray, List.getElem_cons_succ, List.getElem_cons_zero]
              refine take_at (some 101) (i := 19) (v := ?_) rfl rfl (by kernel_rfl) (by kernel_rfl) (by kernel_rfl) (fun _ _ _ h => h) (Or.inl ⟨by kernel_rfl, ?_⟩) hHeld ?_
              rotate_left
              · intro wz hSw; have k1 : wz.cell? ⟨gb, 1, none⟩ = some (.string xt) := hSw.cell 1; have k2 : wz.cell? ⟨gb, 2, none⟩ = some (.string xk) := hSw.cell 2; have k5 : wz.cell? ⟨gb, 5, none⟩ = some (.int .i64 xo) := hSw.cell 5; go_simp; try (with_reducible rfl)
              try simp only [Act.put, List.setIfInBounds_toArray, List.set_cons_zero, List.set_cons_succ, List.getElem_toArray, List.getElem_cons_succ, List.getElem_cons_zero]
              refine take_at (some 102) (i := 20) (v := ?_) rfl rfl (by kernel_rfl) (by kernel_rfl) (by kernel_rfl) (fun _ _ _ h => h) (Or.inl ⟨by kernel_rfl, ?_⟩) hHeld ?_
              rotate_left
              · intro wz hSw; have k1 : wz.cell? ⟨gb, 1, none⟩ = some (.string xt) := hSw.cell 1; have k2 : wz.cell? ⟨gb, 2, none⟩ = some (.string xk) := hSw.cell 2; have k5 : wz.cell? ⟨gb, 5, none⟩ = some (.int .i64 xo) := hSw.cell 5; go_simp; try (with_reducible rfl)
              try simp only [Act.put, List.setIfInBounds_toArray, List.set_cons_zero, List.set_cons_succ, List.getElem_toArray, List.getElem_cons_succ, List.getElem_cons_zero]
              refine take_at (some 103) (i := 21) (v := ?_) rfl rfl (by kernel_rfl) (by kernel_rfl) (by kernel_rfl) (fun _ _ _ h => h) (Or.inl ⟨by kernel_rfl, ?_⟩) hHeld ?_
              rotate_left
              · intro wz hSw; have k1 : wz.cell? ⟨gb, 1, none⟩ = some (.string xt) := hSw.cell 1; have k2 : wz.cell? ⟨gb, 2, none⟩ = some (.string xk) := hSw.cell 2; have k5 : wz.cell? ⟨gb, 5, none⟩ = some (.int .i64 xo) := hSw.cell 5; go_simp; try (with_reducible rfl)
              try simp only [Act.put, List.setIfInBounds_toArray, List.set_cons_zero, List.set_cons_succ, List.getElem_toArray, List.getElem_cons_succ, List.getElem_cons_zero]
              refine take_at (some 104) (i := 22) (v := ?_) rfl rfl (by kernel_rfl) (by kernel_rfl) (by kernel_rfl) (fun _ _ _ h => h) (Or.inl ⟨by kernel_rfl, ?_⟩) hHeld ?_
              rotate_left
              · intro wz hSw; have k1 : wz.cell? ⟨gb, 1, none⟩ = some (.string xt) := hSw.cell 1; have k2 : wz.cell? ⟨gb, 2, none⟩ = some (.string xk) := hSw.cell 2; have k5 : wz.cell? ⟨gb, 5, none⟩ = some (.int .i64 xo) := hSw.cell 5; go_simp; try (with_reducible rfl)
              try simp only [Act.put, List.setIfInBounds_toArray, List.set_cons_zero, List.set_cons_succ, List.getElem_toArray, List.getElem_cons_succ, List.getElem_cons_zero]
              refine take_at (some 106) (i := 24) (v := ?_) rfl rfl (by kernel_rfl) (by kernel_rfl) (by kernel_rfl) (fun _ _ _ h => h) (Or.inl ⟨by kernel_rfl, ?_⟩) hHeld ?_
              rotate_left
              · intro wz hSw; have k1 : wz.cell? ⟨gb, 1, none⟩ = some (.string xt) := hSw.cell 1; have k2 : wz.cell? ⟨gb, 2, none⟩ = some (.string xk) := hSw.cell 2; have k5 : wz.cell? ⟨gb, 5, none⟩ = some (.int .i64 xo) := hSw.cell 5; go_simp; try (with_reducible rfl)
              try simp only [Act.put, List.setIfInBounds_toArray, List.set_cons_zero, List.set_cons_succ, List.getElem_toArray, List.getElem_cons_succ, List.getElem_cons_zero]
              refine take_at (some 107) (i := 25) (v := ?_) rfl rfl (by kernel_rfl) (by kernel_rfl) (by kernel_rfl) (fun _ _ _ h => h) (Or.inl ⟨by kernel_rfl, ?_⟩) hHeld ?_
              rotate_left
              · intro wz hSw; have k1 : wz.cell? ⟨gb, 1, none⟩ = some (.string xt) := hSw.cell 1; have k2 : wz.cell? ⟨gb, 2, none⟩ = some (.string xk) := hSw.cell 2; have k5 : wz.cell? ⟨gb, 5, none⟩ = some (.int .i64 xo) := hSw.cell 5; go_simp; try (with_reducible rfl)
              try simp only [Act.put, List.setIfInBounds_toArray, List.set_cons_zero, List.set_cons_succ, List.getElem_toArray, List.getElem_cons_succ, List.getElem_cons_zero]
              refine take_at (some 108) (i := 26) (v := ?_) rfl rfl (by kernel_rfl) (by kernel_rfl) (by kernel_rfl) (fun _ _ _ h => h) (Or.inl ⟨by kernel_rfl, ?_⟩) hHeld ?_
              rotate_left
              · intro wz hSw; have k1 : wz.cell? ⟨gb, 1, none⟩ = some (.string xt) := hSw.cell 1; have k2 : wz.cell? ⟨gb, 2, none⟩ = some (.string xk) := hSw.cell 2; have k5 : wz.cell? ⟨gb, 5, none⟩ = some (.int .i64 xo) := hSw.cell 5; go_simp; try (with_reducible rfl)
              try simp only [Act.put, List.setIfInBounds_toArray, List.set_cons_zero, List.set_cons_succ, List.getElem_toArray, List.getElem_cons_succ, List.getElem_cons_zero]
              refine take_at (some 109) (i := 27) (v := ?_) rfl rfl (by kernel_rfl) (by kernel_rfl) (by kernel_rfl) (fun _ _ _ h => h) (Or.inl ⟨by kernel_rfl, ?_⟩) hHeld ?_
              rotate_left
              · intro wz hSw; have k1 : wz.cell? ⟨gb, 1, none⟩ = some (.string xt) := hSw.cell 1; have k2 : wz.cell? ⟨gb, 2, none⟩ = some (.string xk) := hSw.cell 2; have k5 : wz.cell? ⟨gb, 5, none⟩ = some (.int .i64 xo) := hSw.cell 5; go_simp; try (with_reducible rfl)
              try simp only [Act.put, List.setIfInBounds_toArray, List.set_cons_zero, List.set_cons_succ, List.getElem_toArray, List.getElem_cons_succ, List.getElem_cons_zero]
              refine take_at (some 110) (i := 28) (v := ?_) rfl rfl (by kernel_rfl) (by kernel_rfl) (by kernel_rfl) (fun _ _ _ h => h) (Or.inl ⟨by kernel_rfl, ?_⟩) hHeld ?_
              rotate_left
              · intro wz hSw; have k1 : wz.cell? ⟨gb, 1, none⟩ = some (.string xt) := hSw.cell 1; have k2 : wz.cell? ⟨gb, 2, none⟩ = some (.string xk) := hSw.cell 2; have k5 : wz.cell? ⟨gb, 5, none⟩ = some (.int .i64 xo) := hSw.cell 5; go_simp; try (with_reducible rfl)
              try simp only [Act.put, List.setIfInBounds_toArray, List.set_cons_zero, List.set_cons_succ, List.getElem_toArray, List.getElem_cons_succ, List.getElem_cons_zero]
              refine take_at (some 111) (i := 29) (v := ?_) rfl rfl (by kernel_rfl) (by kernel_rfl) (by kernel_rfl) (fun _ _ _ h => h) (Or.inl ⟨by kernel_rfl, ?_⟩) hHeld ?_
              rotate_left
              · intro wz hSw; have k1 : wz.cell? ⟨gb, 1, none⟩ = some (.string xt) := hSw.cell 1; have k2 : wz.cell? ⟨gb, 2, none⟩ = some (.string xk) := hSw.cell 2; have k5 : wz.cell? ⟨gb, 5, none⟩ = some (.int .i64 xo) := hSw.cell 5; go_simp; try (with_reducible rfl)
              try simp only [Act.put, List.setIfInBounds_toArray, List.set_cons_zero, List.set_cons_succ, List.getElem_toArray, List.getElem_cons_succ, List.getElem_cons_zero]
              refine take_at (some 112) (i := 30) (v := ?_) rfl rfl (by kernel_rfl) (by kernel_rfl) (by kernel_rfl) (fun _ _ _ h => h) (Or.inl ⟨by kernel_rfl, ?_⟩) hHeld ?_
              rotate_left
              · intro wz hSw; have k1 : wz.cell? ⟨gb, 1, none⟩ = some (.string xt) := hSw.cell 1; have k2 : wz.cell? ⟨gb, 2, none⟩ = some (.string xk) := hSw.cell 2; have k5 : wz.cell? ⟨gb, 5, none⟩ = some (.int .i64 xo) := hSw.cell 5; go_simp; try (with_reducible rfl)
              try simp only [Act.put, List.setIfInBounds_toArray, List.set_cons_zero, List.set_cons_succ, List.getElem_toArray, List.getElem_cons_succ, List.getElem_cons_zero]
              refine wpAnyH_ready (rs := [23]) (by kernel_rfl) (by simp) (AllReadyH.cons rfl (fun K hK => ?_) AllReadyH.nil)
              rw [if_pos (by kernel_rfl)]
              go_simp
              refine (hx1 _ hy2).mono ?_
              rintro e y3 ⟨rfl, hy3⟩
              try dsimp only
              refine hK.out _ _ (hy3.a.head) (fun hHeld => ?_)
              try simp only [Act.put, List.setIfInBounds_toArray, List.set_cons_zero, List.set_cons_succ, List.getElem_toArray, List.getElem_cons_succ, List.getElem_cons_zero]
              refine wpAnyH_ready (rs := [31]) (by kernel_rfl) (by simp) (AllReadyH.cons rfl (fun K hK => ?_) AllReadyH.nil)
              rw [if_pos (by kernel_rfl)]
              go_simp
              refine (hx2 _ hy3).mono ?_
              rintro e y4 ⟨rfl, hy4⟩
              try dsimp only
              refine hK.out _ _ (hy4.a.head) (fun hHeld => ?_)
              try simp only [Act.put, List.setIfInBounds_toArray, List.set_cons_zero, List.set_cons_succ, List.getElem_toArray, List.getElem_cons_succ, List.getElem_cons_zero]
              refine take_at (some 114) (i := 32) (v := ?_) rfl rfl (by kernel_rfl) (by kernel_rfl) (by kernel_rfl) (fun _ _ _ h => h) (Or.inl ⟨by kernel_rfl, ?_⟩) hHeld ?_
              rotate_left
              · intro wz hSw; go_simp; try (with_reducible rfl)
              try simp only [Act.put, List.setIfInBounds_toArray, List.set_cons_zero, List.set_cons_succ, List.getElem_toArray, List.getElem_cons_succ, List.getElem_cons_zero]
              refine take_at (some 115) (i := 33) (v := ?_) rfl rfl (by kernel_rfl) (by kernel_rfl) (by kernel_rfl) (fun _ _ _ h => h) (Or.inl ⟨by kernel_rfl, ?_⟩) hHeld ?_
              rotate_left
              · intro wz hSw; go_simp; try (with_reducible rfl)
              try simp only [Act.put, List.setIfInBounds_toArray, List.set_cons_zero, List.set_cons_succ, List.getElem_toArray, List.getElem_cons_succ, List.getElem_cons_zero]
              refine take_at (some 116) (i := 34) (v := ?_) rfl rfl (by kernel_rfl) (by kernel_rfl) (by kernel_rfl) (fun _ _ _ h => h) (Or.inl ⟨by kernel_rfl, ?_⟩) hHeld ?_
              rotate_left
              · intro wz hSw; go_simp; try (with_reducible rfl)
              try simp only [Act.put, List.setIfInBounds_toArray, List.set_cons_zero, List.set_cons_succ, List.getElem_toArray, List.getElem_cons_succ, List.getElem_cons_zero]
              refine wpAnyH_done (by kernel_rfl) ?_ _
              refine gen_qH (fun y => Lg w v mb v2 m2 tn gg h2g [(gb, 34, #[.int .i64 0, .string xt, .string xk, .string xn, .string xp, .int .i64 xo]), (g0, 24, #[.int .i64 a0, .int .i64 a1, .int .i64 a2, .int .i64 a3, .slice A n c])] y) hy4 (fun y hy => ?_)
              have HGE := Lib.hid (hy.less (L' := [(g0, 24, #[.int .i64 a0, .int .i64 a1, .int .i64 a2, .int .i64 a3, .slice A n c])]) (fun b hb => List.mem_cons_of_mem _ hb))
              clear hy hHeld
              go_wp2
              go_roundw
              case rel => exact ⟨i + 1, gg, h2g, by omega, by go_num, Lib.hid HL9.out, HQ9, HGE⟩
              case measure => simp [intOf]; omega
            | true =>
              cases hp2 : (xk.toList == t.toList) with
              | false =>
              obtain ⟨gx, hx1, hx2⟩ := HOT.out (fun e => by rw [e.2, beq_self_eq_true] at hp2; cases hp2)
              go_upto_region 15 with fail
              clear d1 d2 d5
              try simp only [List.cons_append, List.nil_append]
              refine wp_region_held_drew (S := fun wz => Bk wz gb 34 #[.int .i64 0, .string xt, .string xk, .string xn, .string xp, .int .i64 xo]) (by kernel_rfl) (HG8.out.a.head.drew) (fun hHeld => ?_)
              refine take_at (some 82) (i := 0) (v := ?_) rfl rfl (by kernel_rfl) (by kernel_rfl) (by kernel_rfl) (fun _ _ _ h => h) (Or.inl ⟨by kernel_rfl, ?_⟩) hHeld ?_
              rotate_left
              · intro wz hSw; have k1 : wz.cell? ⟨gb, 1, none⟩ = some (.string xt) := hSw.cell 1; have k2 : wz.cell? ⟨gb, 2, none⟩ = some (.string xk) := hSw.cell 2; have k5 : wz.cell? ⟨gb, 5, none⟩ = some (.int .i64 xo) := hSw.cell 5; go_simp; try (with_reducible rfl)
              try simp only [Act.put, List.setIfInBounds_toArray, List.set_cons_zero, List.set_cons_succ, List.getElem_toArray, List.getElem_cons_succ, List.getElem_cons_zero]
              refine take_at (some 83) (i := 1) (v := ?_) rfl rfl (by kernel_rfl) (by kernel_rfl) (by kernel_rfl) (fun _ _ _ h => h) (Or.inl ⟨by kernel_rfl, ?_⟩) hHeld ?_
              rotate_left
              · intro wz hSw; have k1 : wz.cell? ⟨gb, 1, none⟩ = some (.string xt) := hSw.cell 1; have k2 : wz.cell? ⟨gb, 2, none⟩ = some (.string xk) := hSw.cell 2; have k5 : wz.cell? ⟨gb, 5, none⟩ = some (.int .i64 xo) := hSw.cell 5; go_simp; try (with_reducible rfl)
              try simp only [Act.put, List.setIfInBounds_toArray, List.set_cons_zero, List.set_cons_succ, List.getElem_toArray, List.getElem_cons_succ, List.getElem_cons_zero]
              refine take_at (some 84) (i := 2) (v := ?_) rfl rfl (by kernel_rfl) (by kernel_rfl) (by kernel_rfl) (fun _ _ _ h => h) (Or.inl ⟨by kernel_rfl, ?_⟩) hHeld ?_
              rotate_left
              · intro wz hSw; have k1 : wz.cell? ⟨gb, 1, none⟩ = some (.string xt) := hSw.cell 1; have k2 : wz.cell? ⟨gb, 2, none⟩ = some (.string xk) := hSw.cell 2; have k5 : wz.cell? ⟨gb, 5, none⟩ = some (.int .i64 xo) := hSw.cell 5; go_simp; try (with_reducible rfl)
              try simp only [Act.put, List.setIfInBounds_toArray, List.set_cons_zero, List.set_cons_succ, List.getElem_toArray, List.getElem_cons_succ, List.getElem_cons_zero]
              refine take_at (some 85) (i := 3) (v := ?_) rfl rfl (by kernel_rfl) (by kernel_rfl) (by kernel_rfl) (fun _ _ _ h => h) (Or.inl ⟨by kernel_rfl, ?_⟩) hHeld ?_
              rotate_left
              · intro wz hSw; have k1 : wz.cell? ⟨gb, 1, none⟩ = some (.string xt) := hSw.cell 1; have k2 : wz.cell? ⟨gb, 2, none⟩ = some (.string xk) := hSw.cell 2; have k5 : wz.cell? ⟨gb, 5, none⟩ = some (.int .i64 xo) := hSw.cell 5; go_simp; try (with_reducible rfl)
              try simp only [Act.put, List.setIfInBounds_toArray, List.set_cons_zero, List.set_cons_succ, List.getElem_toArray, List.getElem_cons_succ, List.getElem_cons_zero]
              refine take_at (some 86) (i := 4) (v := ?_) rfl rfl (by kernel_rfl) (by kernel_rfl) (by kernel_rfl) (fun _ _ _ h => h) (Or.inl ⟨by kernel_rfl, ?_⟩) hHeld ?_
              rotate_left
              · intro wz hSw; have k1 : wz.cell? ⟨gb, 1, none⟩ = some (.string xt) := hSw.cell 1; have k2 : wz.cell? ⟨gb, 2, none⟩ = some (.string xk) := hSw.cell 2; have k5 : wz.cell? ⟨gb, 5, none⟩ = some (.int .i64 xo) := hSw.cell 5; go_simp; try (with_reducible rfl)
              try simp only [Act.put, List.setIfInBounds_toArray, List.set_cons_zero, List.set_cons_succ, List.getElem_toArray, List.getElem_cons_succ, List.getElem_cons_zero]
              refine wpAnyH_ready (rs := [5]) (by kernel_rfl) (by simp) (AllReadyH.cons rfl (fun K hK => ?_) AllReadyH.nil)
              rw [if_pos (by kernel_rfl)]
              go_simp
              refine (HGD.out _ (HG8.out.on (Below.refl u8.heap.size u8).drew)).mono ?_
              rintro e y1 ⟨rfl, hy1⟩
              try dsimp only
              refine hK.out _ _ (hy1.a.head) (fun hHeld => ?_)
              try simp only [Act.put, List.setIfInBounds_toArray, List.set_cons_zero, List.set_cons_succ, List.getElem_toArray, List.getElem_cons_succ, List.getElem_cons_zero]
              refine take_at (some 88) (i := 6) (v := ?_) rfl rfl (by kernel_rfl) (by kernel_rfl) (by kernel_rfl) (fun _ _ _ h => h) (Or.inl ⟨by kernel_rfl, ?_⟩) hHeld ?_
              rotate_left
              · intro wz hSw; go_simp; try (with_reducible rfl)
              try simp only [Act.put, List.setIfInBounds_toArray, List.set_cons_zero, List.set_cons_succ, List.getElem_toArray, List.getElem_cons_succ, List.getElem_cons_zero]
              refine take_at (some 89) (i := 7) (v := ?_) rfl rfl (by kernel_rfl) (by kernel_rfl) (by kernel_rfl) (fun _ _ _ h => h) (Or.inl ⟨by kernel_rfl, ?_⟩) hHeld ?_
              rotate_left
              · intro wz hSw; go_simp; try (with_reducible rfl)
              try simp only [Act.put, List.setIfInBounds_toArray, List.set_cons_zero, List.set_cons_succ, List.getElem_toArray, List.getElem_cons_succ, List.getElem_cons_zero]
              refine take_at (some 90) (i := 8) (v := ?_) rfl rfl (by kernel_rfl) (by kernel_rfl) (by kernel_rfl) (fun _ _ _ h => h) (Or.inl ⟨by kernel_rfl, ?_⟩) hHeld ?_
              rotate_left
              · intro wz hSw; go_simp; try (with_reducible rfl)
              try simp only [Act.put, List.setIfInBounds_toArray, List.set_cons_zero, List.set_cons_succ, List.getElem_toArray, List.getElem_cons_succ, List.getElem_cons_zero]
              refine take_at (some 91) (i := 9) (v := ?_) rfl rfl (by kernel_rfl) (by kernel_rfl) (by kernel_rfl) (fun _ _ _ h => h) (Or.inl ⟨by kernel_rfl, ?_⟩) hHeld ?_
              rotate_left
              · intro wz hSw; go_simp; try (with_reducible rfl)
              try simp only [Act.put, List.setIfInBounds_toArray, List.set_cons_zero, List.set_cons_succ, List.getElem_toArray, List.getElem_cons_succ, List.getElem_cons_zero]
              refine wpAnyH_ready (rs := [10]) (by kernel_rfl) (by simp) (AllReadyH.cons rfl (fun K hK => ?_) AllReadyH.nil)
              rw [if_pos (by kernel_rfl)]
              go_simp
              refine (HRV.out _ hy1).mono ?_
              rintro e y2 ⟨rfl, hy2⟩
              try dsimp only
              refine hK.out _ _ (hy2.a.head) (fun hHeld => ?_)
              try simp only [Act.put, List.setIfInBounds_toArray, List.set_cons_zero, List.set_cons_succ, List.getElem_toArray, List.getElem_cons_succ, List.getElem_cons_zero]
              refine take_at (some 93) (i := 11) (v := ?_) rfl rfl (by kernel_rfl) (by kernel_rfl) (by kernel_rfl) (fun _ _ _ h => h) (Or.inl ⟨by kernel_rfl, ?_⟩) hHeld ?_
              rotate_left
              · intro wz hSw; go_simp; try (with_reducible rfl)
              try simp only [Act.put, List.setIfInBounds_toArray, List.set_cons_zero, List.set_cons_succ, List.getElem_toArray, List.getElem_cons_succ, List.getElem_cons_zero]
              refine take_at (some 94) (i := 12) (v := ?_) rfl rfl (by kernel_rfl) (by kernel_rfl) (by kernel_rfl) (fun _ _ _ h => h) (Or.inl ⟨by kernel_rfl, ?_⟩) hHeld ?_
              rotate_left
              · intro wz hSw; go_simp; try (with_reducible rfl)
              try simp only [Act.put, List.setIfInBounds_toArray, List.set_cons_zero, List.set_cons_succ, List.getElem_toArray, List.getElem_cons_succ, List.getElem_cons_zero]
              refine take_at (some 95) (i := 13) (v := ?_) rfl rfl (by kernel_rfl) (by kernel_rfl) (by kernel_rfl) (fun _ _ _ h => h) (Or.inl ⟨by kernel_rfl, ?_⟩) hHeld ?_
              rotate_left
              · intro wz hSw; go_simp; try (with_reducible rfl)
              try simp only [Act.put, List.setIfInBounds_toArray, List.set_cons_zero, List.set_cons_succ, List.getElem_toArray, List.getElem_cons_succ, List.getElem_cons_zero]
              refine take_at (some 96) (i := 14) (v := ?_) rfl rfl (by kernel_rfl) (by kernel_rfl) (by kernel_rfl) (fun _ _ _ h => h) (Or.inl ⟨by kernel_rfl, ?_⟩) hHeld ?_
              rotate_left
              · intro wz hSw; go_simp; try (with_reducible rfl)
              try simp only [Act.put, List.setIfInBounds_toArray, List.set_cons_zero, List.set_cons_succ, List.getElem_toArray, List.getElem_cons_succ, List.getElem_cons_zero]
              refine take_at (some 97) (i := 15) (v := ?_) rfl rfl (by kernel_rfl) (by kernel_rfl) (by kernel_rfl) (fun _ _ _ h => h) (Or.inl ⟨by kernel_rfl, ?_⟩) hHeld ?_
              rotate_left
              · intro wz hSw; go_simp; try (with_reducible rfl)
              try simp only [Act.put, List.setIfInBounds_toArray, List.set_cons_zero, List.set_cons_succ, List.getElem_toArray, List.getElem_cons_succ, List.getElem_cons_zero]
              refine take_at (some 98) (i := 16) (v := ?_) rfl rfl (by kernel_rfl) (by kernel_rfl) (by kernel_rfl) (fun _ _ _ h => h) (Or.inl ⟨by kernel_rfl, ?_⟩) hHeld ?_
              rotate_left
              · intro wz hSw; have k1 : wz.cell? ⟨gb, 1, none⟩ = some (.string xt) := hSw.cell 1; have k2 : wz.cell? ⟨gb, 2, none⟩ = some (.string xk) := hSw.cell 2; have k5 : wz.cell? ⟨gb, 5, none⟩ = some (.int .i64 xo) := hSw.cell 5; go_simp; try (with_reducible rfl)
              try simp only [Act.put, List.setIfInBounds_toArray, List.set_cons_zero, List.set_cons_succ, List.getElem_toArray, List.getElem_cons_succ, List.getElem_cons_zero]
              refine take_at (some 99) (i := 17) (v := ?_) rfl rfl (by kernel_rfl) (by kernel_rfl) (by kernel_rfl) (fun _ _ _ h => h) (Or.inl ⟨by kernel_rfl, ?_⟩) hHeld ?_
              rotate_left
              · intro wz hSw; have k1 : wz.cell? ⟨gb, 1, none⟩ = some (.string xt) := hSw.cell 1; have k2 : wz.cell? ⟨gb, 2, none⟩ = some (.string xk) := hSw.cell 2; have k5 : wz.cell? ⟨gb, 5, none⟩ = some (.int .i64 xo) := hSw.cell 5; go_simp; try (with_reducible rfl)
              try simp only [Act.put, List.setIfInBounds_toArray, List.set_cons_zero, List.set_cons_succ, List.getElem_toArray, List.getElem_cons_succ, List.getElem_cons_zero]
              refine take_at (some 100) (i := 18) (v := ?_) rfl rfl (by kernel_rfl) (by kernel_rfl) (by kernel_rfl) (fun _ _ _ h => h) (Or.inl ⟨by kernel_rfl, ?_⟩) hHeld ?_
              rotate_left
              · intro wz hSw; have k1 : wz.cell? ⟨gb, 1, none⟩ = some (.string xt) := hSw.cell 1; have k2 : wz.cell? ⟨gb, 2, none⟩ = some (.string xk) := hSw.cell 2; have k5 : wz.cell? ⟨gb, 5, none⟩ = some (.int .i64 xo) := hSw.cell 5; go_simp; try (with_reducible rfl)
              try simp only [Act.put, List.setIfInBounds_toArray, List.set_cons_zero, List.set_cons_succ, List.getElem_toArray, List.getElem_cons_succ, List.getElem_cons_zero]
              refine take_at (some 101) (i := 19) (v := ?_) rfl rfl (by kernel_rfl) (by kernel_rfl) (by kernel_rfl) (fun _ _ _ h => h) (Or.inl ⟨by kernel_rfl, ?_⟩) hHeld ?_
              rotate_left
              · intro wz hSw; have k1 : wz.cell? ⟨gb, 1, none⟩ = some (.string xt) := hSw.cell 1; have k2 : wz.cell? ⟨gb, 2, none⟩ = some (.string xk) := hSw.cell 2; have k5 : wz.cell? ⟨gb, 5, none⟩ = some (.int .i64 xo) := hSw.cell 5; go_simp; try (with_reducible rfl)
              try simp only [Act.put, List.setIfInBounds_toArray, List.set_cons_zero, List.set_cons_succ, List.getElem_toArray, List.getElem_cons_succ, List.getElem_cons_zero]
              refine take_at (some 102) (i := 20) (v := ?_) rfl rfl (by kernel_rfl) (by kernel_rfl) (by kernel_rfl) (fun _ _ _ h => h) (Or.inl ⟨by kernel_rfl, ?_⟩) hHeld ?_
              rotate_left
              · intro wz hSw; have k1 : wz.cell? ⟨gb, 1, none⟩ = some (.string xt) := hSw.cell 1; have k2 : wz.cell? ⟨gb, 2, none⟩ = some (.string xk) := hSw.cell 2; have k5 : wz.cell? ⟨gb, 5, none⟩ = some (.int .i64 xo) := hSw.cell 5; go_simp; try (with_reducible rfl)
              try simp only [Act.put, List.setIfInBounds_toArray, List.set_cons_zero, List.set_cons_succ, List.getElem_toArray, List.getElem_cons_succ, List.getElem_cons_zero]
              refine take_at (some 103) (i := 21) (v := ?_) rfl rfl (by kernel_rfl) (by kernel_rfl) (by kernel_rfl) (fun _ _ _ h => h) (Or.inl ⟨by kernel_rfl, ?_⟩) hHeld ?_
              rotate_left
              · intro wz hSw; have k1 : wz.cell? ⟨gb, 1, none⟩ = some (.string xt) := hSw.cell 1; have k2 : wz.cell? ⟨gb, 2, none⟩ = some (.string xk) := hSw.cell 2; have k5 : wz.cell? ⟨gb, 5, none⟩ = some (.int .i64 xo) := hSw.cell 5; go_simp; try (with_reducible rfl)
              try simp only [Act.put, List.setIfInBounds_toArray, List.set_cons_zero, List.set_cons_succ, List.getElem_toArray, List.getElem_cons_succ, List.getElem_cons_zero]
              refine take_at (some 104) (i := 22) (v := ?_) rfl rfl (by kernel_rfl) (by kernel_rfl) (by kernel_rfl) (fun _ _ _ h => h) (Or.inl ⟨by kernel_rfl, ?_⟩) hHeld ?_
              rotate_left
              · intro wz hSw; have k1 : wz.cell? ⟨gb, 1, none⟩ = some (.string xt) := hSw.cell 1; have k2 : wz.cell? ⟨gb, 2, none⟩ = some (.string xk) := hSw.cell 2; have k5 : wz.cell? ⟨gb, 5, none⟩ = some (.int .i64 xo) := hSw.cell 5; go_simp; try (with_reducible rfl)
              try simp only [Act.put, List.setIfInBounds_toArray, List.set_cons_zero, List.set_cons_succ, List.getElem_toArray, List.getElem_cons_succ, List.getElem_cons_zero]
              refine take_at (some 106) (i := 24) (v := ?_) rfl rfl (by kernel_rfl) (by kernel_rfl) (by kernel_rfl) (fun _ _ _ h => h) (Or.inl ⟨by kernel_rfl, ?_⟩) hHeld ?_
              rotate_left
              · intro wz hSw; have k1 : wz.cell? ⟨gb, 1, none⟩ = some (.string xt) := hSw.cell 1; have k2 : wz.cell? ⟨gb, 2, none⟩ = some (.string xk) := hSw.cell 2; have k5 : wz.cell? ⟨gb, 5, none⟩ = some (.int .i64 xo) := hSw.cell 5; go_simp; try (with_reducible rfl)
              try simp only [Act.put, List.setIfInBounds_toArray, List.set_cons_zero, List.set_cons_succ, List.getElem_toArray, List.getElem_cons_succ, List.getElem_cons_zero]
              refine take_at (some 107) (i := 25) (v := ?_) rfl rfl (by kernel_rfl) (by kernel_rfl) (by kernel_rfl) (fun _ _ _ h => h) (Or.inl ⟨by kernel_rfl, ?_⟩) hHeld ?_
              rotate_left
              · intro wz hSw; have k1 : wz.cell? ⟨gb, 1, none⟩ = some (.string xt) := hSw.cell 1; have k2 : wz.cell? ⟨gb, 2, none⟩ = some (.string xk) := hSw.cell 2; have k5 : wz.cell? ⟨gb, 5, none⟩ = some (.int .i64 xo) := hSw.cell 5; go_simp; try (with_reducible rfl)
              try simp only [Act.put, List.setIfInBounds_toArray, List.set_cons_zero, List.set_cons_succ, List.getElem_toArray, List.getElem_cons_succ, List.getElem_cons_zero]
              refine take_at (some 108) (i := 26) (v := ?_) rfl rfl (by kernel_rfl) (by kernel_rfl) (by kernel_rfl) (fun _ _ _ h => h) (Or.inl ⟨by kernel_rfl, ?_⟩) hHeld ?_
              rotate_left
              · intro wz hSw; have k1 : wz.cell? ⟨gb, 1, none⟩ = some (.string xt) := hSw.cell 1; have k2 : wz.cell? ⟨gb, 2, none⟩ = some (.string xk) := hSw.cell 2; have k5 : wz.cell? ⟨gb, 5, none⟩ = some (.int .i64 xo) := hSw.cell 5; go_simp; try (with_reducible rfl)
              try simp only [Act.put, List.setIfInBounds_toArray, List.set_cons_zero, List.set_cons_succ, List.getElem_toArray, List.getElem_cons_succ, List.getElem_cons_zero]
              refine take_at (some 109) (i := 27) (v := ?_) rfl rfl (by kernel_rfl) (by kernel_rfl) (by kernel_rfl) (fun _ _ _ h => h) (Or.inl ⟨by kernel_rfl, ?_⟩) hHeld ?_
              rotate_left
              · intro wz hSw; have k1 : wz.cell? ⟨gb, 1, none⟩ = some (.string xt) := hSw.cell 1; have k2 : wz.cell? ⟨gb, 2, none⟩ = some (.string xk) := hSw.cell 2; have k5 : wz.cell? ⟨gb, 5, none⟩ = some (.int .i64 xo) := hSw.cell 5; go_simp; try (with_reducible rfl)
              try simp only [Act.put, List.setIfInBounds_toArray, List.set_cons_zero, List.set_cons_succ, List.getElem_toArray, List.getElem_cons_succ, List.getElem_cons_zero]
              refine take_at (some 110) (i := 28) (v := ?_) rfl rfl (by kernel_rfl) (by kernel_rfl) (by kernel_rfl) (fun _ _ _ h => h) (Or.inl ⟨by kernel_rfl, ?_⟩) hHeld ?_
              rotate_left
              · intro wz hSw; have k1 : wz.cell? ⟨gb, 1, none⟩ = some (.string xt) := hSw.cell 1; have k2 : wz.cell? ⟨gb, 2, none⟩ = some (.string xk) := hSw.cell 2; have k5 : wz.cell? ⟨gb, 5, none⟩ = some (.int .i64 xo) := hSw.cell 5; go_simp; try (with_reducible rfl)
              try simp only [Act.put, List.setIfInBounds_toArray, List.set_cons_zero, List.set_cons_succ, List.getElem_toArray, List.getElem_cons_succ, List.getElem_cons_zero]
              refine take_at (some 111) (i := 29) (v := ?_) rfl rfl (by kernel_rfl) (by kernel_rfl) (by kernel_rfl) (fun _ _ _ h => h) (Or.inl ⟨by kernel_rfl, ?_⟩) hHeld ?_
              rotate_left
              · intro wz hSw; have k1 : wz.cell? ⟨gb, 1, none⟩ = some (.string xt) := hSw.cell 1; have k2 : wz.cell? ⟨gb, 2, none⟩ = some (.string xk) := hSw.cell 2; have k5 : wz.cell? ⟨gb, 5, none⟩ = some (.int .i64 xo) := hSw.cell 5; go_simp; try (with_reducible rfl)
              try simp only [Act.put, List.setIfInBounds_toArray, List.set_cons_zero, List.set_cons_succ, List.getElem_toArray, List.getElem_cons_succ, List.getElem_cons_zero]
              refine take_at (some 112) (i := 30) (v := ?_) rfl rfl (by kernel_rfl) (by kernel_rfl) (by kernel_rfl) (fun _ _ _ h => h) (Or.inl ⟨by kernel_rfl, ?_⟩) hHeld ?_
              rotate_left
              · intro wz hSw; have k1 : wz.cell? ⟨gb, 1, none⟩ = some (.string xt) := hSw.cell 1; have k2 : wz.cell? ⟨gb, 2, none⟩ = some (.string xk) := hSw.cell 2; have k5 : wz.cell? ⟨gb, 5, none⟩ = some (.int .i64 xo) := hSw.cell 5; go_simp; try (with_reducible rfl)
              try simp only [Act.put, List.setIfInBounds_toArray, List.set_cons_zero, List.set_cons_succ, List.getElem_toArray, List.getElem_cons_succ, List.getElem_cons_zero]
              refine wpAnyH_ready (rs := [23]) (by kernel_rfl) (by simp) (AllReadyH.cons rfl (fun K hK => ?_) AllReadyH.nil)
              rw [if_pos (by kernel_rfl)]
              go_simp
              refine (hx1 _ hy2).mono ?_
              rintro e y3 ⟨rfl, hy3⟩
              try dsimp only
              refine hK.out _ _ (hy3.a.head) (fun hHeld => ?_)
              try simp only [Act.put, List.setIfInBounds_toArray, List.set_cons_zero, List.set_cons_succ, List.getElem_toArray, List.getElem_cons_succ, List.getElem_cons_zero]
              refine wpAnyH_ready (rs := [31]) (by kernel_rfl) (by simp) (AllReadyH.cons rfl (fun K hK => ?_) AllReadyH.nil)
              rw [if_pos (by kernel_rfl)]
              go_simp
              refine (hx2 _ hy3).mono ?_
              rintro e y4 ⟨rfl, hy4⟩
              try dsimp only
              refine hK.out _ _ (hy4.a.head) (fun hHeld => ?_)
              try simp only [Act.put, List.setIfInBounds_toArray, List.set_cons_zero, List.set_cons_succ, List.getElem_toArray, List.getElem_cons_succ, List.getElem_cons_zero]
              refine take_at (some 114) (i := 32) (v := ?_) rfl rfl (by kernel_rfl) (by kernel_rfl) (by kernel_rfl) (fun _ _ _ h => h) (Or.inl ⟨by kernel_rfl, ?_⟩) hHeld ?_
              rotate_left
              · intro wz hSw; go_simp; try (with_reducible rfl)
              try simp only [Act.put, List.setIfInBounds_toArray, List.set_cons_zero, List.set_cons_succ, List.getElem_toArray, List.getElem_cons_succ, List.getElem_cons_zero]
              refine take_at (some 115) (i := 33) (v := ?_) rfl rfl (by kernel_rfl) (by kernel_rfl) (by kernel_rfl) (fun _ _ _ h => h) (Or.inl ⟨by kernel_rfl, ?_⟩) hHeld ?_
              rotate_left
              · intro wz hSw; go_simp; try (with_reducible rfl)
              try simp only [Act.put, List.setIfInBounds_toArray, List.set_cons_zero, List.set_cons_succ, List.getElem_toArray, List.getElem_cons_succ, List.getElem_cons_zero]
              refine take_at (some 116) (i := 34) (v := ?_) rfl rfl (by kernel_rfl) (by kernel_rfl) (by kernel_rfl) (fun _ _ _ h => h) (Or.inl ⟨by kernel_rfl, ?_⟩) hHeld ?_
              rotate_left
              · intro wz hSw; go_simp; try (with_reducible rfl)
              try simp only [Act.put, List.setIfInBounds_toArray, List.set_cons_zero, List.set_cons_succ, List.getElem_toArray, List.getElem_cons_succ, List.getElem_cons_zero]
              refine wpAnyH_done (by kernel_rfl) ?_ _
              refine gen_qH (fun y => Lg w v mb v2 m2 tn gg h2g [(gb, 34, #[.int .i64 0, .string xt, .string xk, .string xn, .string xp, .int .i64 xo]), (g0, 24, #[.int .i64 a0, .int .i64 a1, .int .i64 a2, .int .i64 a3, .slice A n c])] y) hy4 (fun y hy => ?_)
              have HGE := Lib.hid (hy.less (L' := [(g0, 24, #[.int .i64 a0, .int .i64 a1, .int .i64 a2, .int .i64 a3, .slice A n c])]) (fun b hb => List.mem_cons_of_mem _ hb))
              clear hy hHeld
              go_wp2
              go_roundw
              case rel => exact ⟨i + 1, gg, h2g, by omega, by go_num, Lib.hid HL9.out, HQ9, HGE⟩
              case measure => simp [intOf]; omega
              | true =>
              go_upto_region 15 with fail
              clear d1 d2 d5
              try simp only [List.cons_append, List.nil_append]
              refine wp_region_held_drew (S := fun wz => Bk wz gb 34 #[.int .i64 0, .string xt, .string xk, .string xn, .string xp, .int .i64 xo]) (by kernel_rfl) (HG8.out.a.head.drew) (fun hHeld => ?_)
              refine take_at (some 82) (i := 0) (v := ?_) rfl rfl (by kernel_rfl) (by kernel_rfl) (by kernel_rfl) (fun _ _ _ h => h) (Or.inl ⟨by kernel_rfl, ?_⟩) hHeld ?_
              rotate_left
              · intro wz hSw; have k1 : wz.cell? ⟨gb, 1, none⟩ = some (.string xt) := hSw.cell 1; have k2 : wz.cell? ⟨gb, 2, none⟩ = some (.string xk) := hSw.cell 2; have k5 : wz.cell? ⟨gb, 5, none⟩ = some (.int .i64 xo) := hSw.cell 5; go_simp; try (with_reducible rfl)
              try simp only [Act.put, List.setIfInBounds_toArray, List.set_cons_zero, List.set_cons_succ, List.getElem_toArray, List.getElem_cons_succ, List.getElem_cons_zero]
              refine take_at (some 83) (i := 1) (v := ?_) rfl rfl (by kernel_rfl) (by kernel_rfl) (by kernel_rfl) (fun _ _ _ h => h) (Or.inl ⟨by kernel_rfl, ?_⟩) hHeld ?_
              rotate_left
              · intro wz hSw; have k1 : wz.cell? ⟨gb, 1, none⟩ = some (.string xt) := hSw.cell 1; have k2 : wz.cell? ⟨gb, 2, none⟩ = some (.string xk) := hSw.cell 2; have k5 : wz.cell? ⟨gb, 5, none⟩ = some (.int .i64 xo) := hSw.cell 5; go_simp; try (with_reducible rfl)
              try simp only [Act.put, List.setIfInBounds_toArray, List.set_cons_zero, List.set_cons_succ, List.getElem_toArray, List.getElem_cons_succ, List.getElem_cons_zero]
              refine take_at (some 84) (i := 2) (v := ?_) rfl rfl (by kernel_rfl) (by kernel_rfl) (by kernel_rfl) (fun _ _ _ h => h) (Or.inl ⟨by kernel_rfl, ?_⟩) hHeld ?_
              rotate_left
              · intro wz hSw; have k1 : wz.cell? ⟨gb, 1, none⟩ = some (.string xt) := hSw.cell 1; have k2 : wz.cell? ⟨gb, 2, none⟩ = some (.string xk) := hSw.cell 2; have k5 : wz.cell? ⟨gb, 5, none⟩ = some (.int .i64 xo) := hSw.cell 5; go_simp; try (with_reducible rfl)
              try simp only [Act.put, List.setIfInBounds_toArray, List.set_cons_zero, List.set_cons_succ, List.getElem_toArray, List.getElem_cons_succ, List.getElem_cons_zero]
              refine take_at (some 85) (i := 3) (v := ?_) rfl rfl (by kernel_rfl) (by kernel_rfl) (by kernel_rfl) (fun _ _ _ h => h) (Or.inl ⟨by kernel_rfl, ?_⟩) hHeld ?_
              rotate_left
              · intro wz hSw; have k1 : wz.cell? ⟨gb, 1, none⟩ = some (.string xt) := hSw.cell 1; have k2 : wz.cell? ⟨gb, 2, none⟩ = some (.string xk) := hSw.cell 2; have k5 : wz.cell? ⟨gb, 5, none⟩ = some (.int .i64 xo) := hSw.cell 5; go_simp; try (with_reducible rfl)
              try simp only [Act.put, List.setIfInBounds_toArray, List.set_cons_zero, List.set_cons_succ, List.getElem_toArray, List.getElem_cons_succ, List.getElem_cons_zero]
              refine take_at (some 86) (i := 4) (v := ?_) rfl rfl (by kernel_rfl) (by kernel_rfl) (by kernel_rfl) (fun _ _ _ h => h) (Or.inl ⟨by kernel_rfl, ?_⟩) hHeld ?_
              rotate_left
              · intro wz hSw; have k1 : wz.cell? ⟨gb, 1, none⟩ = some (.string xt) := hSw.cell 1; have k2 : wz.cell? ⟨gb, 2, none⟩ = some (.string xk) := hSw.cell 2; have k5 : wz.cell? ⟨gb, 5, none⟩ = some (.int .i64 xo) := hSw.cell 5; go_simp; try (with_reducible rfl)
              try simp only [Act.put, List.setIfInBounds_toArray, List.set_cons_zero, List.set_cons_succ, List.getElem_toArray, List.getElem_cons_succ, List.getElem_cons_zero]
              refine wpAnyH_ready (rs := [5]) (by kernel_rfl) (by simp) (AllReadyH.cons rfl (fun K hK => ?_) AllReadyH.nil)
              rw [if_pos (by kernel_rfl)]
              go_simp
              refine (HGD.out _ (HG8.out.on (Below.refl u8.heap.size u8).drew)).mono ?_
              rintro e y1 ⟨rfl, hy1⟩
              try dsimp only
              refine hK.out _ _ (hy1.a.head) (fun hHeld => ?_)
              try simp only [Act.put, List.setIfInBounds_toArray, List.set_cons_zero, List.set_cons_succ, List.getElem_toArray, List.getElem_cons_succ, List.getElem_cons_zero]
              refine take_at (some 88) (i := 6) (v := ?_) rfl rfl (by kernel_rfl) (by kernel_rfl) (by kernel_rfl) (fun _ _ _ h => h) (Or.inl ⟨by kernel_rfl, ?_⟩) hHeld ?_
              rotate_left
              · intro wz hSw; go_simp; try (with_reducible rfl)
              try simp only [Act.put, List.setIfInBounds_toArray, List.set_cons_zero, List.set_cons_succ, List.getElem_toArray, List.getElem_cons_succ, List.getElem_cons_zero]
              refine take_at (some 89) (i := 7) (v := ?_) rfl rfl (by kernel_rfl) (by kernel_rfl) (by kernel_rfl) (fun _ _ _ h => h) (Or.inl ⟨by kernel_rfl, ?_⟩) hHeld ?_
              rotate_left
              · intro wz hSw; go_simp; try (with_reducible rfl)
              try simp only [Act.put, List.setIfInBounds_toArray, List.set_cons_zero, List.set_cons_succ, List.getElem_toArray, List.getElem_cons_succ, List.getElem_cons_zero]
              refine take_at (some 90) (i := 8) (v := ?_) rfl rfl (by kernel_rfl) (by kernel_rfl) (by kernel_rfl) (fun _ _ _ h => h) (Or.inl ⟨by kernel_rfl, ?_⟩) hHeld ?_
              rotate_left
              · intro wz hSw; go_simp; try (with_reducible rfl)
              try simp only [Act.put, List.setIfInBounds_toArray, List.set_cons_zero, List.set_cons_succ, List.getElem_toArray, List.getElem_cons_succ, List.getElem_cons_zero]
              refine take_at (some 91) (i := 9) (v := ?_) rfl rfl (by kernel_rfl) (by kernel_rfl) (by kernel_rfl) (fun _ _ _ h => h) (Or.inl ⟨by kernel_rfl, ?_⟩) hHeld ?_
              rotate_left
              · intro wz hSw; go_simp; try (with_reducible rfl)
              try simp only [Act.put, List.setIfInBounds_toArray, List.set_cons_zero, List.set_cons_succ, List.getElem_toArray, List.getElem_cons_succ, List.getElem_cons_zero]
              refine wpAnyH_ready (rs := [10]) (by kernel_rfl) (by simp) (AllReadyH.cons rfl (fun K hK => ?_) AllReadyH.nil)
              rw [if_pos (by kernel_rfl)]
              go_simp
              refine (HRV.out _ hy1).mono ?_
              rintro e y2 ⟨rfl, hy2⟩
              try dsimp only
              refine hK.out _ _ (hy2.a.head) (fun hHeld => ?_)
              try simp only [Act.put, List.setIfInBounds_toArray, List.set_cons_zero, List.set_cons_succ, List.getElem_toArray, List.getElem_cons_succ, List.getElem_cons_zero]
              refine take_at (some 93) (i := 11) (v := ?_) rfl rfl (by kernel_rfl) (by kernel_rfl) (by kernel_rfl) (fun _ _ _ h => h) (Or.inl ⟨by kernel_rfl, ?_⟩) hHeld ?_
              rotate_left
              · intro wz hSw; go_simp; try (with_reducible rfl)
              try simp only [Act.put, List.setIfInBounds_toArray, List.set_cons_zero, List.set_cons_succ, List.getElem_toArray, List.getElem_cons_succ, List.getElem_cons_zero]
              refine take_at (some 94) (i := 12) (v := ?_) rfl rfl (by kernel_rfl) (by kernel_rfl) (by kernel_rfl) (fun _ _ _ h => h) (Or.inl ⟨by kernel_rfl, ?_⟩) hHeld ?_
              rotate_left
              · intro wz hSw; go_simp; try (with_reducible rfl)
              try simp only [Act.put, List.setIfInBounds_toArray, List.set_cons_zero, List.set_cons_succ, List.getElem_toArray, List.getElem_cons_succ, List.getElem_cons_zero]
              refine take_at (some 95) (i := 13) (v := ?_) rfl rfl (by kernel_rfl) (by kernel_rfl) (by kernel_rfl) (fun _ _ _ h => h) (Or.inl ⟨by kernel_rfl, ?_⟩) hHeld ?_
              rotate_left
              · intro wz hSw; go_simp; try (with_reducible rfl)
              try simp only [Act.put, List.setIfInBounds_toArray, List.set_cons_zero, List.set_cons_succ, List.getElem_toArray, List.getElem_cons_succ, List.getElem_cons_zero]
              refine take_at (some 96) (i := 14) (v := ?_) rfl rfl (by kernel_rfl) (by kernel_rfl) (by kernel_rfl) (fun _ _ _ h => h) (Or.inl ⟨by kernel_rfl, ?_⟩) hHeld ?_
              rotate_left
              · intro wz hSw; go_simp; try (with_reducible rfl)
              try simp only [Act.put, List.setIfInBounds_toArray, List.set_cons_zero, List.set_cons_succ, List.getElem_toArray, List.getElem_cons_succ, List.getElem_cons_zero]
              refine take_at (some 97) (i := 15) (v := ?_) rfl rfl (by kernel_rfl) (by kernel_rfl) (by kernel_rfl) (fun _ _ _ h => h) (Or.inl ⟨by kernel_rfl, ?_⟩) hHeld ?_
              rotate_left
              · intro wz hSw; go_simp; try (with_reducible rfl)
              try simp only [Act.put, List.setIfInBounds_toArray, List.set_cons_zero, List.set_cons_succ, List.getElem_toArray, List.getElem_cons_succ, List.getElem_cons_zero]
              refine take_at (some 98) (i := 16) (v := undef) rfl rfl (by kernel_rfl) (by kernel_rfl) (by kernel_rfl) (fun _ _ _ h => h) (Or.inr ⟨by kernel_rfl, rfl⟩) hHeld ?_
              try simp only [Act.put, List.setIfInBounds_toArray, List.set_cons_zero, List.set_cons_succ, List.getElem_toArray, List.getElem_cons_succ, List.getElem_cons_zero]
              refine take_at (some 99) (i := 17) (v := undef) rfl rfl (by kernel_rfl) (by kernel_rfl) (by kernel_rfl) (fun _ _ _ h => h) (Or.inr ⟨by kernel_rfl, rfl⟩) hHeld ?_
              try simp only [Act.put, List.setIfInBounds_toArray, List.set_cons_zero, List.set_cons_succ, List.getElem_toArray, List.getElem_cons_succ, List.getElem_cons_zero]
              refine take_at (some 100) (i := 18) (v := undef) rfl rfl (by kernel_rfl) (by kernel_rfl) (by kernel_rfl) (fun _ _ _ h => h) (Or.inr ⟨by kernel_rfl, rfl⟩) hHeld ?_
              try simp only [Act.put, List.setIfInBounds_toArray, List.set_cons_zero, List.set_cons_succ, List.getElem_toArray, List.getElem_cons_succ, List.getElem_cons_zero]
              refine take_at (some 101) (i := 19) (v := undef) rfl rfl (by kernel_rfl) (by kernel_rfl) (by kernel_rfl) (fun _ _ _ h => h) (Or.inr ⟨by kernel_rfl, rfl⟩) hHeld ?_
              try simp only [Act.put, List.setIfInBounds_toArray, List.set_cons_zero, List.set_cons_succ, List.getElem_toArray, List.getElem_cons_succ, List.getElem_cons_zero]
              refine take_at (some 102) (i := 20) (v := undef) rfl rfl (by kernel_rfl) (by kernel_rfl) (by kernel_rfl) (fun _ _ _ h => h) (Or.inr ⟨by kernel_rfl, rfl⟩) hHeld ?_
              try simp only [Act.put, List.setIfInBounds_toArray, List.set_cons_zero, List.set_cons_succ, List.getElem_toArray, List.getElem_cons_succ, List.getElem_cons_zero]
              refine take_at (some 103) (i := 21) (v := undef) rfl rfl (by kernel_rfl) (by kernel_rfl) (by kernel_rfl) (fun _ _ _ h => h) (Or.inr ⟨by kernel_rfl, rfl⟩) hHeld ?_
              try simp only [Act.put, List.setIfInBounds_toArray, List.set_cons_zero, List.set_cons_succ, List.getElem_toArray, List.getElem_cons_succ, List.getElem_cons_zero]
              refine take_at (some 104) (i := 22) (v := undef) rfl rfl (by kernel_rfl) (by kernel_rfl) (by kernel_rfl) (fun _ _ _ h => h) (Or.inr ⟨by kernel_rfl, rfl⟩) hHeld ?_
              try simp only [Act.put, List.setIfInBounds_toArray, List.set_cons_zero, List.set_cons_succ, List.getElem_toArray, List.getElem_cons_succ, List.getElem_cons_zero]
              refine take_at (some 105) (i := 23) (v := undef) rfl rfl (by kernel_rfl) (by kernel_rfl) (by kernel_rfl) (fun _ _ _ h => h) (Or.inr ⟨by kernel_rfl, rfl⟩) hHeld ?_
              try simp only [Act.put, List.setIfInBounds_toArray, List.set_cons_zero, List.set_cons_succ, List.getElem_toArray, List.getElem_cons_succ, List.getElem_cons_zero]
              refine take_at (some 106) (i := 24) (v := undef) rfl rfl (by kernel_rfl) (by kernel_rfl) (by kernel_rfl) (fun _ _ _ h => h) (Or.inr ⟨by kernel_rfl, rfl⟩) hHeld ?_
              try simp only [Act.put, List.setIfInBounds_toArray, List.set_cons_zero, List.set_cons_succ, List.getElem_toArray, List.getElem_cons_succ, List.getElem_cons_zero]
              refine take_at (some 107) (i := 25) (v := undef) rfl rfl (by kernel_rfl) (by kernel_rfl) (by kernel_rfl) (fun _ _ _ h => h) (Or.inr ⟨by kernel_rfl, rfl⟩) hHeld ?_
              try simp only [Act.put, List.setIfInBounds_toArray, List.set_cons_zero, List.set_cons_succ, List.getElem_toArray, List.getElem_cons_succ, List.getElem_cons_zero]
              refine take_at (some 108) (i := 26) (v := undef) rfl rfl (by kernel_rfl) (by kernel_rfl) (by kernel_rfl) (fun _ _ _ h => h) (Or.inr ⟨by kernel_rfl, rfl⟩) hHeld ?_
              try simp only [Act.put, List.setIfInBounds_toArray, List.set_cons_zero, List.set_cons_succ, List.getElem_toArray, List.getElem_cons_succ, List.getElem_cons_zero]
              refine take_at (some 109) (i := 27) (v := undef) rfl rfl (by kernel_rfl) (by kernel_rfl) (by kernel_rfl) (fun _ _ _ h => h) (Or.inr ⟨by kernel_rfl, rfl⟩) hHeld ?_
              try simp only [Act.put, List.setIfInBounds_toArray, List.set_cons_zero, List.set_cons_succ, List.getElem_toArray, List.getElem_cons_succ, List.getElem_cons_zero]
              refine take_at (some 110) (i := 28) (v := undef) rfl rfl (by kernel_rfl) (by kernel_rfl) (by kernel_rfl) (fun _ _ _ h => h) (Or.inr ⟨by kernel_rfl, rfl⟩) hHeld ?_
              try simp only [Act.put, List.setIfInBounds_toArray, List.set_cons_zero, List.set_cons_succ, List.getElem_toArray, List.getElem_cons_succ, List.getElem_cons_zero]
              refine take_at (some 111) (i := 29) (v := undef) rfl rfl (by kernel_rfl) (by kernel_rfl) (by kernel_rfl) (fun _ _ _ h => h) (Or.inr ⟨by kernel_rfl, rfl⟩) hHeld ?_
              try simp only [Act.put, List.setIfInBounds_toArray, List.set_cons_zero, List.set_cons_succ, List.getElem_toArray, List.getElem_cons_succ, List.getElem_cons_zero]
              refine take_at (some 112) (i := 30) (v := undef) rfl rfl (by kernel_rfl) (by kernel_rfl) (by kernel_rfl) (fun _ _ _ h => h) (Or.inr ⟨by kernel_rfl, rfl⟩) hHeld ?_
              try simp only [Act.put, List.setIfInBounds_toArray, List.set_cons_zero, List.set_cons_succ, List.getElem_toArray, List.getElem_cons_succ, List.getElem_cons_zero]
              refine take_at (some 113) (i := 31) (v := undef) rfl rfl (by kernel_rfl) (by kernel_rfl) (by kernel_rfl) (fun _ _ _ h => h) (Or.inr ⟨by kernel_rfl, rfl⟩) hHeld ?_
              try simp only [Act.put, List.setIfInBounds_toArray, List.set_cons_zero, List.set_cons_succ, List.getElem_toArray, List.getElem_cons_succ, List.getElem_cons_zero]
              refine take_at (some 114) (i := 32) (v := undef) rfl rfl (by kernel_rfl) (by kernel_rfl) (by kernel_rfl) (fun _ _ _ h => h) (Or.inr ⟨by kernel_rfl, rfl⟩) hHeld ?_
              try simp only [Act.put, List.setIfInBounds_toArray, List.set_cons_zero, List.set_cons_succ, List.getElem_toArray, List.getElem_cons_succ, List.getElem_cons_zero]
              refine take_at (some 115) (i := 33) (v := ?_) rfl rfl (by kernel_rfl) (by kernel_rfl) (by kernel_rfl) (fun _ _ _ h => h) (Or.inl ⟨by kernel_rfl, ?_⟩) hHeld ?_
              rotate_left
              · intro wz hSw; go_simp; try (with_reducible rfl)
              try simp only [Act.put, List.setIfInBounds_toArray, List.set_cons_zero, List.set_cons_succ, List.getElem_toArray, List.getElem_cons_succ, List.getElem_cons_zero]
              refine take_at (some 116) (i := 34) (v := ?_) rfl rfl (by kernel_rfl) (by kernel_rfl) (by kernel_rfl) (fun _ _ _ h => h) (Or.inl ⟨by kernel_rfl, ?_⟩) hHeld ?_
              rotate_left
              · intro wz hSw; go_simp; try (with_reducible rfl)
              try simp only [Act.put, List.setIfInBounds_toArray, List.set_cons_zero, List.set_cons_succ, List.getElem_toArray, List.getElem_cons_succ, List.getElem_cons_zero]
              refine wpAnyH_done (by kernel_rfl) ?_ _
              refine gen_qH (fun y => Lg w v mb v2 m2 tn gg h2g [(gb, 34, #[.int .i64 0, .string xt, .string xk, .string xn, .string xp, .int .i64 xo]), (g0, 24, #[.int .i64 a0, .int .i64 a1, .int .i64 a2, .int .i64 a3, .slice A n c])] y) hy2 (fun y hy => ?_)
              have HGE := Lib.hid (hy.less (L' := [(g0, 24, #[.int .i64 a0, .int .i64 a1, .int .i64 a2, .int .i64 a3, .slice A n c])]) (fun b hb => List.mem_cons_of_mem _ hb))
              clear hy hHeld
              go_wp2
              go_roundw
              case rel => exact ⟨i + 1, gg, h2g, by omega, by go_num, Lib.hid HL9.out, HQ9, HGE⟩
              case measure => simp [intOf]; omega
          · have HL8 := Lib.hid (show g.length ≤ 2 * i + 2 ∧ g2.length ≤ i + 1 by have h1 := HGL.out; omega)
            have HB8 := Lib.hid (show g.length ≤ 1099511627776 by have h1 := HB1.out; omega)
            go_upto_region 14 with fail
            clear d0 d1 d2
            have d1 : wn.cell? ⟨gb, 1, none⟩ = some (.string xt) := HVN.out.a.head.cell 1
            have d2 : wn.cell? ⟨gb, 2, none⟩ = some (.string xk) := HVN.out.a.head.cell 2
            have d5 : wn.cell? ⟨gb, 5, none⟩ = some (.int .i64 xo) := HVN.out.a.head.cell 5
            have HQ9 := Lib.hid HQ.out.self
            have HGD := Lib.hid (show ∀ u, Lg w v mb v2 m2 tn g g2 [(gb, 34, #[.int .i64 xw, .string xt, .string xk, .string xn, .string xp, .int .i64 xo]), (g0, 24, #[.int .i64 a0, .int .i64 a1, .int .i64 a2, .int .i64 a3, .slice A n c])] u → Calls Tryd.prog 16 #[.pointer (some ⟨v, 0, none⟩), .string s, .string t, .int .i64 xo] u fun e u' => e = .returned (.bool false) ∧ Lg w v mb v2 m2 tn g g2 [(gb, 34, #[.int .i64 xw, .string xt, .string xk, .string xn, .string xp, .int .i64 xo]), (g0, 24, #[.int .i64 a0, .int .i64 a1, .int .i64 a2, .int .i64 a3, .slice A n c])] u' from fun u hu => (lg_good hu s t xo).mono fun e u' hh => ⟨by rw [hh.1, HQ.out.good], hh.2⟩)
            have HRV := Lib.hid (show ∀ u, Lg w v mb v2 m2 tn g g2 [(gb, 34, #[.int .i64 xw, .string xt, .string xk, .string xn, .string xp, .int .i64 xo]), (g0, 24, #[.int .i64 a0, .int .i64 a1, .int .i64 a2, .int .i64 a3, .slice A n c])] u → Calls Tryd.prog 14 #[.pointer (some ⟨v, 0, none⟩), .string s, .string t] u fun e u' => e = .returned (.bool false) ∧ Lg w v mb v2 m2 tn (rvG (tkN tn s t) g s t) g2 [(gb, 34, #[.int .i64 xw, .string xt, .string xk, .string xn, .string xp, .int .i64 xo]), (g0, 24, #[.int .i64 a0, .int .i64 a1, .int .i64 a2, .int .i64 a3, .slice A n c])] u' from fun u hu => (lg_rev hu HB8.out s t).mono fun e u' hh => ⟨by rw [hh.1, HQ.out.rev], hh.2⟩)
            have HL9 := Lib.hid (show (rvG (tkN tn s t) g s t).length ≤ 2 * (i + 1) + 1 ∧ g2.length ≤ i + 1 by have h1 := HL8.out; have h2 := @rv_len2 (tkN tn s t) g s t; omega)
            obtain ⟨gg, hgg⟩ : ∃ gg, rvG (tkN tn s t) g s t = gg := ⟨_, rfl⟩
            rw [hgg] at HQ9 HL9
            simp only [hgg] at HRV
            clear hgg
            have HOT := Lib.hid (show ¬ (xt = s ∧ xk = t) → ∃ gx, (∀ u, Lg w v mb v2 m2 tn gg g2 [(gb, 34, #[.int .i64 xw, .string xt, .string xk, .string xn, .string xp, .int .i64 xo]), (g0, 24, #[.int .i64 a0, .int .i64 a1, .int .i64 a2, .int .i64 a3, .slice A n c])] u → Calls Tryd.prog 16 #[.pointer (some ⟨v, 0, none⟩), .string xt, .string xk, .int .i64 xo] u fun e u' => e = .returned (.bool gx) ∧ Lg w v mb v2 m2 tn gg g2 [(gb, 34, #[.int .i64 xw, .string xt, .string xk, .string xn, .string xp, .int .i64 xo]), (g0, 24, #[.int .i64 a0, .int .i64 a1, .int .i64 a2, .int .i64 a3, .slice A n c])] u') ∧ ∀ u, Lg w v mb v2 m2 tn gg g2 [(gb, 34, #[.int .i64 xw, .string xt, .string xk, .string xn, .string xp, .int .i64 xo]), (g0, 24, #[.int .i64 a0, .int .i64 a1, .int .i64 a2, .int .i64 a3, .slice A n c])] u → Calls Tryd.prog 16 #[.pointer (some ⟨v2, 0, none⟩), .string xt, .string xk, .int .i64 xo] u fun e u' => e = .returned (.bool gx) ∧ Lg w v mb v2 m2 tn gg g2 [(gb, 34, #[.int .i64 xw, .string xt, .string xk, .string xn, .string xp, .int .i64 xo]), (g0, 24, #[.int .i64 a0, .int .i64 a1, .int .i64 a2, .int .i64 a3, .slice A n c])] u' from fun hn => ⟨_, fun u hu => lg_good hu xt xk xo, fun u hu => (lg_good2 hu xt xk xo).mono fun e u' hh => ⟨by rw [hh.1, HQ9.out.oth xt xk hn], hh.2⟩⟩)
            have HEQ := Lib.hid (show ∀ a b : ByteArray, (a.toList == b.toList) = true → a = b from fun a b h => nmEq_iff.1 h)
            cases hp1 : (xt.toList == s.toList) with
            | false =>
              obtain ⟨gx, hx1, hx2⟩ := HOT.out (fun e => by rw [e.1, beq_self_eq_true] at hp1; cases hp1)
              go_upto_region 15 with fail
              clear d1 d2 d5
              try simp only [List.cons_append, List.nil_append]
              refine wp_region_held_drew (S := fun wz => Bk wz gb 34 #[.int .i64 xw, .string xt, .string xk, .string xn, .string xp, .int .i64 xo]) (by kernel_rfl) (HVN.out.a.head.drew) (fun hHeld => ?_)
              refine take_at (some 82) (i := 0) (v := ?_) rfl rfl (by kernel_rfl) (by kernel_rfl) (by kernel_rfl) (fun _ _ _ h => h) (Or.inl ⟨by kernel_rfl, ?_⟩) hHeld ?_
              rotate_left
              · intro wz hSw; have k1 : wz.cell? ⟨gb, 1, none⟩ = some (.string xt) := hSw.cell 1; have k2 : wz.cell? ⟨gb, 2, none⟩ = some (.string xk) := hSw.cell 2; have k5 : wz.cell? ⟨gb, 5, none⟩ = some (.int .i64 xo) := hSw.cell 5; go_simp; try (with_reducible rfl)
              try simp only [Act.put, List.setIfInBounds_toArray, List.set_cons_zero, List.set_cons_succ, List.getElem_toArray, List.getElem_cons_succ, List.getElem_cons_zero]
              refine take_at (some 83) (i := 1) (v := ?_) rfl rfl (by kernel_rfl) (by kernel_rfl) (by kernel_rfl) (fun _ _ _ h => h) (Or.inl ⟨by kernel_rfl, ?_⟩) hHeld ?_
              rotate_left
              · intro wz hSw; have k1 : wz.cell? ⟨gb, 1, none⟩ = some (.string xt) := hSw.cell 1; have k2 : wz.cell? ⟨gb, 2, none⟩ = some (.string xk) := hSw.cell 2; have k5 : wz.cell? ⟨gb, 5, none⟩ = some (.int .i64 xo) := hSw.cell 5; go_simp; try (with_reducible rfl)
              try simp only [Act.put, List.setIfInBounds_toArray, List.set_cons_zero, List.set_cons_succ, List.getElem_toArray, List.getElem_cons_succ, List.getElem_cons_zero]
              refine take_at (some 84) (i := 2) (v := ?_) rfl rfl (by kernel_rfl) (by kernel_rfl) (by kernel_rfl) (fun _ _ _ h => h) (Or.inl ⟨by kernel_rfl, ?_⟩) hHeld ?_
              rotate_left
              · intro wz hSw; have k1 : wz.cell? ⟨gb, 1, none⟩ = some (.string xt) := hSw.cell 1; have k2 : wz.cell? ⟨gb, 2, none⟩ = some (.string xk) := hSw.cell 2; have k5 : wz.cell? ⟨gb, 5, none⟩ = some (.int .i64 xo) := hSw.cell 5; go_simp; try (with_reducible rfl)
              try simp only [Act.put, List.setIfInBounds_toArray, List.set_cons_zero, List.set_cons_succ, List.getElem_toArray, List.getElem_cons_succ, List.getElem_cons_zero]
              refine take_at (some 85) (i := 3) (v := ?_) rfl rfl (by kernel_rfl) (by kernel_rfl) (by kernel_rfl) (fun _ _ _ h => h) (Or.inl ⟨by kernel_rfl, ?_⟩) hHeld ?_
              rotate_left
              · intro wz hSw; have k1 : wz.cell? ⟨gb, 1, none⟩ = some (.string xt) := hSw.cell 1; have k2 : wz.cell? ⟨gb, 2, none⟩ = some (.string xk) := hSw.cell 2; have k5 : wz.cell? ⟨gb, 5, none⟩ = some (.int .i64 xo) := hSw.cell 5; go_simp; try (with_reducible rfl)
              try simp only [Act.put, List.setIfInBounds_toArray, List.set_cons_zero, List.set_cons_succ, List.getElem_toArray, List.getElem_cons_succ, List.getElem_cons_zero]
              refine take_at (some 86) (i := 4) (v := ?_) rfl rfl (by kernel_rfl) (by kernel_rfl) (by kernel_rfl) (fun _ _ _ h => h) (Or.inl ⟨by kernel_rfl, ?_⟩) hHeld ?_
              rotate_left
              · intro wz hSw; have k1 : wz.cell? ⟨gb, 1, none⟩ = some (.string xt) := hSw.cell 1; have k2 : wz.cell? ⟨gb, 2, none⟩ = some (.string xk) := hSw.cell 2; have k5 : wz.cell? ⟨gb, 5, none⟩ = some (.int .i64 xo) := hSw.cell 5; go_simp; try (with_reducible rfl)
              try simp only [Act.put, List.setIfInBounds_toArray, List.set_cons_zero, List.set_cons_succ, List.getElem_toArray, List.getElem_cons_succ, List.getElem_cons_zero]
              refine wpAnyH_ready (rs := [5]) (by kernel_rfl) (by simp) (AllReadyH.cons rfl (fun K hK => ?_) AllReadyH.nil)
              rw [if_pos (by kernel_rfl)]
              go_simp
              refine (HGD.out _ (HVN.out.on (Below.refl wn.heap.size wn).drew)).mono ?_
              rintro e y1 ⟨rfl, hy1⟩
              try dsimp only
              refine hK.out _ _ (hy1.a.head) (fun hHeld => ?_)
              try simp only [Act.put, List.setIfInBounds_toArray, List.set_cons_zero, List.set_cons_succ, List.getElem_toArray, List.getElem_cons_succ, List.getElem_cons_zero]
              refine take_at (some 88) (i := 6) (v := ?_) rfl rfl (by kernel_rfl) (by kernel_rfl) (by kernel_rfl) (fun _ _ _ h => h) (Or.inl ⟨by kernel_rfl, ?_⟩) hHeld ?_
              rotate_left
              · intro wz hSw; go_simp; try (with_reducible rfl)
              try simp only [Act.put, List.setIfInBounds_toArray, List.set_cons_zero, List.set_cons_succ, List.getElem_toArray, List.getElem_cons_succ, List.getElem_cons_zero]
              refine take_at (some 89) (i := 7) (v := ?_) rfl rfl (by kernel_rfl) (by kernel_rfl) (by kernel_rfl) (fun _ _ _ h => h) (Or.inl ⟨by kernel_rfl, ?_⟩) hHeld ?_
              rotate_left
              · intro wz hSw; go_simp; try (with_reducible rfl)
              try simp only [Act.put, List.setIfInBounds_toArray, List.set_cons_zero, List.set_cons_succ, List.getElem_toArray, List.getElem_cons_succ, List.getElem_cons_zero]
              refine take_at (some 90) (i := 8) (v := ?_) rfl rfl (by kernel_rfl) (by kernel_rfl) (by kernel_rfl) (fun _ _ _ h => h) (Or.inl ⟨by kernel_rfl, ?_⟩) hHeld ?_
              rotate_left
              · intro wz hSw; go_simp; try (with_reducible rfl)
              try simp only [Act.put, List.setIfInBounds_toArray, List.set_cons_zero, List.set_cons_succ, List.getElem_toArray, List.getElem_cons_succ, List.getElem_cons_zero]
              refine take_at (some 91) (i := 9) (v := ?_) rfl rfl (by kernel_rfl) (by kernel_rfl) (by kernel_rfl) (fun _ _ _ h => h) (Or.inl ⟨by kernel_rfl, ?_⟩) hHeld ?_
              rotate_left
              · intro wz hSw; go_simp; try (with_reducible rfl)
              try simp only [Act.put, List.setIfInBounds_toArray, List.set_cons_zero, List.set_cons_succ, List.getElem_toArray, List.getElem_cons_succ, List.getElem_cons_zero]
              refine wpAnyH_ready (rs := [10]) (by kernel_rfl) (by simp) (AllReadyH.cons rfl (fun K hK => ?_) AllReadyH.nil)
              rw [if_pos (by kernel_rfl)]
              go_simp
              refine (HRV.out _ hy1).mono ?_
              rintro e y2 ⟨rfl, hy2⟩
              try dsimp only
              refine hK.out _ _ (hy2.a.head) (fun hHeld => ?_)
              try simp only [Act.put, List.setIfInBounds_toArray, List.set_cons_zero, List.set_cons_succ, List.getElem_toArray, List.getElem_cons_succ, List.getElem_cons_zero]
              refine take_at (some 93) (i := 11) (v := ?_) rfl rfl (by kernel_rfl) (by kernel_rfl) (by kernel_rfl) (fun _ _ _ h => h) (Or.inl ⟨by kernel_rfl, ?_⟩) hHeld ?_
              rotate_left
              · intro wz hSw; go_simp; try (with_reducible rfl)
              try simp only [Act.put, List.setIfInBounds_toArray, List.set_cons_zero, List.set_cons_succ, List.getElem_toArray, List.getElem_cons_succ, List.getElem_cons_zero]
              refine take_at (some 94) (i := 12) (v := ?_) rfl rfl (by kernel_rfl) (by kernel_rfl) (by kernel_rfl) (fun _ _ _ h => h) (Or.inl ⟨by kernel_rfl, ?_⟩) hHeld ?_
              rotate_left
              · intro wz hSw; go_simp; try (with_reducible rfl)
              try simp only [Act.put, List.setIfInBounds_toArray, List.set_cons_zero, List.set_cons_succ, List.getElem_toArray, List.getElem_cons_succ, List.getElem_cons_zero]
              refine take_at (some 95) (i := 13) (v := ?_) rfl rfl (by kernel_rfl) (by kernel_rfl) (by kernel_rfl) (fun _ _ _ h => h) (Or.inl ⟨by kernel_rfl, ?_⟩) hHeld ?_
              rotate_left
              · intro wz hSw; go_simp; try (with_reducible rfl)
              try simp only [Act.put, List.setIfInBounds_toArray, List.set_cons_zero, List.set_cons_succ, List.getElem_toArray, List.getElem_cons_succ, List.getElem_cons_zero]
              refine take_at (some 96) (i := 14) (v := ?_) rfl rfl (by kernel_rfl) (by kernel_rfl) (by kernel_rfl) (fun _ _ _ h => h) (Or.inl ⟨by kernel_rfl, ?_⟩) hHeld ?_
              rotate_left
              · intro wz hSw; go_simp; try (with_reducible rfl)
              try simp only [Act.put, List.setIfInBounds_toArray, List.set_cons_zero, List.set_cons_succ, List.getElem_toArray, List.getElem_cons_succ, List.getElem_cons_zero]
              refine take_at (some 97) (i := 15) (v := ?_) rfl rfl (by kernel_rfl) (by kernel_rfl) (by kernel_rfl) (fun _ _ _ h => h) (Or.inl ⟨by kernel_rfl, ?_⟩) hHeld ?_
              rotate_left
              · intro wz hSw; go_simp; try (with_reducible rfl)
              try simp only [Act.put, List.setIfInBounds_toArray, List.set_cons_zero, List.set_cons_succ, List.getElem_toArray, List.getElem_cons_succ, List.getElem_cons_zero]
              refine take_at (some 98) (i := 16) (v := ?_) rfl rfl (by kernel_rfl) (by kernel_rfl) (by kernel_rfl) (fun _ _ _ h => h) (Or.inl ⟨by kernel_rfl, ?_⟩) hHeld ?_
              rotate_left
              · intro wz hSw; have k1 : wz.cell? ⟨gb, 1, none⟩ = some (.string xt) := hSw.cell 1; have k2 : wz.cell? ⟨gb, 2, none⟩ = some (.string xk) := hSw.cell 2; have k5 : wz.cell? ⟨gb, 5, none⟩ = some (.int .i64 xo) := hSw.cell 5; go_simp; try (with_reducible rfl)
              try simp only [Act.put, List.setIfInBounds_toArray, List.set_cons_zero, List.set_cons_succ, List.getElem_toArray, List.getElem_cons_succ, List.getElem_cons_zero]
              refine take_at (some 99) (i := 17) (v := ?_) rfl rfl (by kernel_rfl) (by kernel_rfl) (by kernel_rfl) (fun _ _ _ h => h) (Or.inl ⟨by kernel_rfl, ?_⟩) hHeld ?_
              rotate_left
              · intro wz hSw; have k1 : wz.cell? ⟨gb, 1, none⟩ = some (.string xt) := hSw.cell 1; have k2 : wz.cell? ⟨gb, 2, none⟩ = some (.string xk) := hSw.cell 2; have k5 : wz.cell? ⟨gb, 5, none⟩ = some (.int .i64 xo) := hSw.cell 5; go_simp; try (with_reducible rfl)
              try simp only [Act.put, List.setIfInBounds_toArray, List.set_cons_zero, List.set_cons_succ, List.getElem_toArray, List.getElem_cons_succ, List.getElem_cons_zero]
              refine take_at (some 100) (i := 18) (v := ?_) rfl rfl (by kernel_rfl) (by kernel_rfl) (by kernel_rfl) (fun _ _ _ h => h) (Or.inl ⟨by kernel_rfl, ?_⟩) hHeld ?_
              rotate_left
              · intro wz hSw; have k1 : wz.cell? ⟨gb, 1, none⟩ = some (.string xt) := hSw.cell 1; have k2 : wz.cell? ⟨gb, 2, none⟩ = some (.string xk) := hSw.cell 2; have k5 : wz.cell? ⟨gb, 5, none⟩ = some (.int .i64 xo) := hSw.cell 5; go_simp; try (with_reducible rfl)
              try simp only [Act.put, List.setIfInBounds_toArray, List.set_cons_zero, List.set_cons_succ, List.getElem_toArray, List.getElem_cons_succ, List.getElem_cons_zero]
              refine take_at (some 101) (i := 19) (v := ?_) rfl rfl (by kernel_rfl) (by kernel_rfl) (by kernel_rfl) (fun _ _ _ h => h) (Or.inl ⟨by kernel_rfl, ?_⟩) hHeld ?_
              rotate_left
              · intro wz hSw; have k1 : wz.cell? ⟨gb, 1, none⟩ = some (.string xt) := hSw.cell 1; have k2 : wz.cell? ⟨gb, 2, none⟩ = some (.string xk) := hSw.cell 2; have k5 : wz.cell? ⟨gb, 5, none⟩ = some (.int .i64 xo) := hSw.cell 5; go_simp; try (with_reducible rfl)
              try simp only [Act.put, List.setIfInBounds_toArray, List.set_cons_zero, List.set_cons_succ, List.getElem_toArray, List.getElem_cons_succ, List.getElem_cons_zero]
              refine take_at (some 102) (i := 20) (v := ?_) rfl rfl (by kernel_rfl) (by kernel_rfl) (by kernel_rfl) (fun _ _ _ h => h) (Or.inl ⟨by kernel_rfl, ?_⟩) hHeld ?_
              rotate_left
              · intro wz hSw; have k1 : wz.cell? ⟨gb, 1, none⟩ = some (.string xt) := hSw.cell 1; have k2 : wz.cell? ⟨gb, 2, none⟩ = some (.string xk) := hSw.cell 2; have k5 : wz.cell? ⟨gb, 5, none⟩ = some (.int .i64 xo) := hSw.cell 5; go_simp; try (with_reducible rfl)
              try simp only [Act.put, List.setIfInBounds_toArray, List.set_cons_zero, List.set_cons_succ, List.getElem_toArray, List.getElem_cons_succ, List.getElem_cons_zero]
              refine take_at (some 103) (i := 21) (v := ?_) rfl rfl (by kernel_rfl) (by kernel_rfl) (by kernel_rfl) (fun _ _ _ h => h) (Or.inl ⟨by kernel_rfl, ?_⟩) hHeld ?_
              rotate_left
              · intro wz hSw; have k1 : wz.cell? ⟨gb, 1, none⟩ = some (.string xt) := hSw.cell 1; have k2 : wz.cell? ⟨gb, 2, none⟩ = some (.string xk) := hSw.cell 2; have k5 : wz.cell? ⟨gb, 5, none⟩ = some (.int .i64 xo) := hSw.cell 5; go_simp; try (with_reducible rfl)
              try simp only [Act.put, List.setIfInBounds_toArray, List.set_cons_zero, List.set_cons_succ, List.getElem_toArray, List.getElem_cons_succ, List.getElem_cons_zero]
              refine take_at (some 104) (i := 22) (v := ?_) rfl rfl (by kernel_rfl) (by kernel_rfl) (by kernel_rfl) (fun _ _ _ h => h) (Or.inl ⟨by kernel_rfl, ?_⟩) hHeld ?_
              rotate_left
              · intro wz hSw; have k1 : wz.cell? ⟨gb, 1, none⟩ = some (.string xt) := hSw.cell 1; have k2 : wz.cell? ⟨gb, 2, none⟩ = some (.string xk) := hSw.cell 2; have k5 : wz.cell? ⟨gb, 5, none⟩ = some (.int .i64 xo) := hSw.cell 5; go_simp; try (with_reducible rfl)
              try simp only [Act.put, List.setIfInBounds_toArray, List.set_cons_zero, List.set_cons_succ, List.getElem_toArray, List.getElem_cons_succ, List.getElem_cons_zero]
              refine take_at (some 106) (i := 24) (v := ?_) rfl rfl (by kernel_rfl) (by kernel_rfl) (by kernel_rfl) (fun _ _ _ h => h) (Or.inl ⟨by kernel_rfl, ?_⟩) hHeld ?_
              rotate_left
              · intro wz hSw; have k1 : wz.cell? ⟨gb, 1, none⟩ = some (.string xt) := hSw.cell 1; have k2 : wz.cell? ⟨gb, 2, none⟩ = some (.string xk) := hSw.cell 2; have k5 : wz.cell? ⟨gb, 5, none⟩ = some (.int .i64 xo) := hSw.cell 5; go_simp; try (with_reducible rfl)
              try simp only [Act.put, List.setIfInBounds_toArray, List.set_cons_zero, List.set_cons_succ, List.getElem_toArray, List.getElem_cons_succ, List.getElem_cons_zero]
              refine take_at (some 107) (i := 25) (v := ?_) rfl rfl (by kernel_rfl) (by kernel_rfl) (by kernel_rfl) (fun _ _ _ h => h) (Or.inl ⟨by kernel_rfl, ?_⟩) hHeld ?_
              rotate_left
              · intro wz hSw; have k1 : wz.cell? ⟨gb, 1, none⟩ = some (.string xt) := hSw.cell 1; have k2 : wz.cell? ⟨gb, 2, none⟩ = some (.string xk) := hSw.cell 2; have k5 : wz.cell? ⟨gb, 5, none⟩ = some (.int .i64 xo) := hSw.cell 5; go_simp; try (with_reducible rfl)
              try simp only [Act.put, List.setIfInBounds_toArray, List.set_cons_zero, List.set_cons_succ, List.getElem_toArray, List.getElem_cons_succ, List.getElem_cons_zero]
              refine take_at (some 108) (i := 26) (v := ?_) rfl rfl (by kernel_rfl) (by kernel_rfl) (by kernel_rfl) (fun _ _ _ h => h) (Or.inl ⟨by kernel_rfl, ?_⟩) hHeld ?_
              rotate_left
              · intro wz hSw; have k1 : wz.cell? ⟨gb, 1, none⟩ = some (.string xt) := hSw.cell 1; have k2 : wz.cell? ⟨gb, 2, none⟩ = some (.string xk) := hSw.cell 2; have k5 : wz.cell? ⟨gb, 5, none⟩ = some (.int .i64 xo) := hSw.cell 5; go_simp; try (with_reducible rfl)
              try simp only [Act.put, List.setIfInBounds_toArray, List.set_cons_zero, List.set_cons_succ, List.getElem_toArray, List.getElem_cons_succ, List.getElem_cons_zero]
              refine take_at (some 109) (i := 27) (v := ?_) rfl rfl (by kernel_rfl) (by kernel_rfl) (by kernel_rfl) (fun _ _ _ h => h) (Or.inl ⟨by kernel_rfl, ?_⟩) hHeld ?_
              rotate_left
              · intro wz hSw; have k1 : wz.cell? ⟨gb, 1, none⟩ = some (.string xt) := hSw.cell 1; have k2 : wz.cell? ⟨gb, 2, none⟩ = some (.string xk) := hSw.cell 2; have k5 : wz.cell? ⟨gb, 5, none⟩ = some (.int .i64 xo) := hSw.cell 5; go_simp; try (with_reducible rfl)
              try simp only [Act.put, List.setIfInBounds_toArray, List.set_cons_zero, List.set_cons_succ, List.getElem_toArray, List.getElem_cons_succ, List.getElem_cons_zero]
              refine take_at (some 110) (i := 28) (v := ?_) rfl rfl (by kernel_rfl) (by kernel_rfl) (by kernel_rfl) (fun _ _ _ h => h) (Or.inl ⟨by kernel_rfl, ?_⟩) hHeld ?_
              rotate_left
              · intro wz hSw; have k1 : wz.cell? ⟨gb, 1, none⟩ = some (.string xt) := hSw.cell 1; have k2 : wz.cell? ⟨gb, 2, none⟩ = some (.string xk) := hSw.cell 2; have k5 : wz.cell? ⟨gb, 5, none⟩ = some (.int .i64 xo) := hSw.cell 5; go_simp; try (with_reducible rfl)
              try simp only [Act.put, List.setIfInBounds_toArray, List.set_cons_zero, List.set_cons_succ, List.getElem_toArray, List.getElem_cons_succ, List.getElem_cons_zero]
              refine take_at (some 111) (i := 29) (v := ?_) rfl rfl (by kernel_rfl) (by kernel_rfl) (by kernel_rfl) (fun _ _ _ h => h) (Or.inl ⟨by kernel_rfl, ?_⟩) hHeld ?_
              rotate_left
              · intro wz hSw; have k1 : wz.cell? ⟨gb, 1, none⟩ = some (.string xt) := hSw.cell 1; have k2 : wz.cell? ⟨gb, 2, none⟩ = some (.string xk) := hSw.cell 2; have k5 : wz.cell? ⟨gb, 5, none⟩ = some (.int .i64 xo) := hSw.cell 5; go_simp; try (with_reducible rfl)
              try simp only [Act.put, List.setIfInBounds_toArray, List.set_cons_zero, List.set_cons_succ, List.getElem_toArray, List.getElem_cons_succ, List.getElem_cons_zero]
              refine take_at (some 112) (i := 30) (v := ?_) rfl rfl (by kernel_rfl) (by kernel_rfl) (by kernel_rfl) (fun _ _ _ h => h) (Or.inl ⟨by kernel_rfl, ?_⟩) hHeld ?_
              rotate_left
              · intro wz hSw; have k1 : wz.cell? ⟨gb, 1, none⟩ = some (.string xt) := hSw.cell 1; have k2 : wz.cell? ⟨gb, 2, none⟩ = some (.string xk) := hSw.cell 2; have k5 : wz.cell? ⟨gb, 5, none⟩ = some (.int .i64 xo) := hSw.cell 5; go_simp; try (with_reducible rfl)
              try simp only [Act.put, List.setIfInBounds_toArray, List.set_cons_zero, List.set_cons_succ, List.getElem_toArray, List.getElem_cons_succ, List.getElem_cons_zero]
              refine wpAnyH_ready (rs := [23]) (by kernel_rfl) (by simp) (AllReadyH.cons rfl (fun K hK => ?_) AllReadyH.nil)
              rw [if_pos (by kernel_rfl)]
              go_simp
              refine (hx1 _ hy2).mono ?_
              rintro e y3 ⟨rfl, hy3⟩
              try dsimp only
              refine hK.out _ _ (hy3.a.head) (fun hHeld => ?_)
              try simp only [Act.put, List.setIfInBounds_toArray, List.set_cons_zero, List.set_cons_succ, List.getElem_toArray, List.getElem_cons_succ, List.getElem_cons_zero]
              refine wpAnyH_ready (rs := [31]) (by kernel_rfl) (by simp) (AllReadyH.cons rfl (fun K hK => ?_) AllReadyH.nil)
              rw [if_pos (by kernel_rfl)]
              go_simp
              refine (hx2 _ hy3).mono ?_
              rintro e y4 ⟨rfl, hy4⟩
              try dsimp only
              refine hK.out _ _ (hy4.a.head) (fun hHeld => ?_)
              try simp only [Act.put, List.setIfInBounds_toArray, List.set_cons_zero, List.set_cons_succ, List.getElem_toArray, List.getElem_cons_succ, List.getElem_cons_zero]
              refine take_at (some 114) (i := 32) (v := ?_) rfl rfl (by kernel_rfl) (by kernel_rfl) (by kernel_rfl) (fun _ _ _ h => h) (Or.inl ⟨by kernel_rfl, ?_⟩) hHeld ?_
              rotate_left
              · intro wz hSw; go_simp; try (with_reducible rfl)
              try simp only [Act.put, List.setIfInBounds_toArray, List.set_cons_zero, List.set_cons_succ, List.getElem_toArray, List.getElem_cons_succ, List.getElem_cons_zero]
              refine take_at (some 115) (i := 33) (v := ?_) rfl rfl (by kernel_rfl) (by kernel_rfl) (by kernel_rfl) (fun _ _ _ h => h) (Or.inl ⟨by kernel_rfl, ?_⟩) hHeld ?_
              rotate_left
              · intro wz hSw; go_simp; try (with_reducible rfl)
              try simp only [Act.put, List.setIfInBounds_toArray, List.set_cons_zero, List.set_cons_succ, List.getElem_toArray, List.getElem_cons_succ, List.getElem_cons_zero]
              refine take_at (some 116) (i := 34) (v := ?_) rfl rfl (by kernel_rfl) (by kernel_rfl) (by kernel_rfl) (fun _ _ _ h => h) (Or.inl ⟨by kernel_rfl, ?_⟩) hHeld ?_
              rotate_left
              · intro wz hSw; go_simp; try (with_reducible rfl)
              try simp only [Act.put, List.setIfInBounds_toArray, List.set_cons_zero, List.set_cons_succ, List.getElem_toArray, List.getElem_cons_succ, List.getElem_cons_zero]
              refine wpAnyH_done (by kernel_rfl) ?_ _
              refine gen_qH (fun y => Lg w v mb v2 m2 tn gg g2 [(gb, 34, #[.int .i64 xw, .string xt, .string xk, .string xn, .string xp, .int .i64 xo]), (g0, 24, #[.int .i64 a0, .int .i64 a1, .int .i64 a2, .int .i64 a3, .slice A n c])] y) hy4 (fun y hy => ?_)
              have HGE := Lib.hid (hy.less (L' := [(g0, 24, #[.int .i64 a0, .int .i64 a1, .int .i64 a2, .int .i64 a3, .slice A n c])]) (fun b hb => List.mem_cons_of_mem _ hb))
              clear hy hHeld
              go_wp2
              go_roundw
              case rel => exact ⟨i + 1, gg, g2, by omega, by go_num, Lib.hid HL9.out, HQ9, HGE⟩
              case measure => simp [intOf]; omega
            | true =>
              cases hp2 : (xk.toList == t.toList) with
              | false =>
              obtain ⟨gx, hx1, hx2⟩ := HOT.out (fun e => by rw [e.2, beq_self_eq_true] at hp2; cases hp2)
              go_upto_region 15 with fail
              clear d1 d2 d5
              try simp only [List.cons_append, List.nil_append]
              refine wp_region_held_drew (S := fun wz => Bk wz gb 34 #[.int .i64 xw, .string xt, .string xk, .string xn, .string xp, .int .i64 xo]) (by kernel_rfl) (HVN.out.a.head.drew) (fun hHeld => ?_)
              refine take_at (some 82) (i := 0) (v := ?_) rfl rfl (by kernel_rfl) (by kernel_rfl) (by kernel_rfl) (fun _ _ _ h => h) (Or.inl ⟨by kernel_rfl, ?_⟩) hHeld ?_
              rotate_left
              · intro wz hSw; have k1 : wz.cell? ⟨gb, 1, none⟩ = some (.string xt) := hSw.cell 1; have k2 : wz.cell? ⟨gb, 2, none⟩ = some (.string xk) := hSw.cell 2; have k5 : wz.cell? ⟨gb, 5, none⟩ = some (.int .i64 xo) := hSw.cell 5; go_simp; try (with_reducible rfl)
              try simp only [Act.put, List.setIfInBounds_toArray, List.set_cons_zero, List.set_cons_succ, List.getElem_toArray, List.getElem_cons_succ, List.getElem_cons_zero]
              refine take_at (some 83) (i := 1) (v := ?_) rfl rfl (by kernel_rfl) (by kernel_rfl) (by kernel_rfl) (fun _ _ _ h => h) (Or.inl ⟨by kernel_rfl, ?_⟩) hHeld ?_
              rotate_left
              · intro wz hSw; have k1 : wz.cell? ⟨gb, 1, none⟩ = some (.string xt) := hSw.cell 1; have k2 : wz.cell? ⟨gb, 2, none⟩ = some (.string xk) := hSw.cell 2; have k5 : wz.cell? ⟨gb, 5, none⟩ = some (.int .i64 xo) := hSw.cell 5; go_simp; try (with_reducible rfl)
              try simp only [Act.put, List.setIfInBounds_toArray, List.set_cons_zero, List.set_cons_succ, List.getElem_toArray, List.getElem_cons_succ, List.getElem_cons_zero]
              refine take_at (some 84) (i := 2) (v := ?_) rfl rfl (by kernel_rfl) (by kernel_rfl) (by kernel_rfl) (fun _ _ _ h => h) (Or.inl ⟨by kernel_rfl, ?_⟩) hHeld ?_
              rotate_left
              · intro wz hSw; have k1 : wz.cell? ⟨gb, 1, none⟩ = some (.string xt) := hSw.cell 1; have k2 : wz.cell? ⟨gb, 2, none⟩ = some (.string xk) := hSw.cell 2; have k5 : wz.cell? ⟨gb, 5, none⟩ = some (.int .i64 xo) := hSw.cell 5; go_simp; try (with_reducible rfl)
              try simp only [Act.put, List.setIfInBounds_toArray, List.set_cons_zero, List.set_cons_succ, List.getElem_toArray, List.getElem_cons_succ, List.getElem_cons_zero]
              refine take_at (some 85) (i := 3) (v := ?_) rfl rfl (by kernel_rfl) (by kernel_rfl) (by kernel_rfl) (fun _ _ _ h => h) (Or.inl ⟨by kernel_rfl, ?_⟩) hHeld ?_
              rotate_left
              · intro wz hSw; have k1 : wz.cell? ⟨gb, 1, none⟩ = some (.string xt) := hSw.cell 1; have k2 : wz.cell? ⟨gb, 2, none⟩ = some (.string xk) := hSw.cell 2; have k5 : wz.cell? ⟨gb, 5, none⟩ = some (.int .i64 xo) := hSw.cell 5; go_simp; try (with_reducible rfl)
              try simp only [Act.put, List.setIfInBounds_toArray, List.set_cons_zero, List.set_cons_succ, List.getElem_toArray, List.getElem_cons_succ, List.getElem_cons_zero]
              refine take_at (some 86) (i := 4) (v := ?_) rfl rfl (by kernel_rfl) (by kernel_rfl) (by kernel_rfl) (fun _ _ _ h => h) (Or.inl ⟨by kernel_rfl, ?_⟩) hHeld ?_
              rotate_left
              · intro wz hSw; have k1 : wz.cell? ⟨gb, 1, none⟩ = some (.string xt) := hSw.cell 1; have k2 : wz.cell? ⟨gb, 2, none⟩ = some (.string xk) := hSw.cell 2; have k5 : wz.cell? ⟨gb, 5, none⟩ = some (.int .i64 xo) := hSw.cell 5; go_simp; try (with_reducible rfl)
              try simp only [Act.put, List.setIfInBounds_toArray, List.set_cons_zero, List.set_cons_succ, List.getElem_toArray, List.getElem_cons_succ, List.getElem_cons_zero]
              refine wpAnyH_ready (rs := [5]) (by kernel_rfl) (by simp) (AllReadyH.cons rfl (fun K hK => ?_) AllReadyH.nil)
              rw [if_pos (by kernel_rfl)]
              go_simp
              refine (HGD.out _ (HVN.out.on (Below.refl wn.heap.size wn).drew)).mono ?_
              rintro e y1 ⟨rfl, hy1⟩
              try dsimp only
              refine hK.out _ _ (hy1.a.head) (fun hHeld => ?_)
              try simp only [Act.put, List.setIfInBounds_toArray, List.set_cons_zero, List.set_cons_succ, List.getElem_toArray, List.getElem_cons_succ, List.getElem_cons_zero]
              refine take_at (some 88) (i := 6) (v := ?_) rfl rfl (by kernel_rfl) (by kernel_rfl) (by kernel_rfl) (fun _ _ _ h => h) (Or.inl ⟨by kernel_rfl, ?_⟩) hHeld ?_
              rotate_left
              · intro wz hSw; go_simp; try (with_reducible rfl)
              try simp only [Act.put, List.setIfInBounds_toArray, List.set_cons_zero, List.set_cons_succ, List.getElem_toArray, List.getElem_cons_succ, List.getElem_cons_zero]
              refine take_at (some 89) (i := 7) (v := ?_) rfl rfl (by kernel_rfl) (by kernel_rfl) (by kernel_rfl) (fun _ _ _ h => h) (Or.inl ⟨by kernel_rfl, ?_⟩) hHeld ?_
              rotate_left
              · intro wz hSw; go_simp; try (with_reducible rfl)
              try simp only [Act.put, List.setIfInBounds_toArray, List.set_cons_zero, List.set_cons_succ, List.getElem_toArray, List.getElem_cons_succ, List.getElem_cons_zero]
              refine take_at (some 90) (i := 8) (v := ?_) rfl rfl (by kernel_rfl) (by kernel_rfl) (by kernel_rfl) (fun _ _ _ h => h) (Or.inl ⟨by kernel_rfl, ?_⟩) hHeld ?_
              rotate_left
              · intro wz hSw; go_simp; try (with_reducible rfl)
              try simp only [Act.put, List.setIfInBounds_toArray, List.set_cons_zero, List.set_cons_succ, List.getElem_toArray, List.getElem_cons_succ, List.getElem_cons_zero]
              refine take_at (some 91) (i := 9) (v := ?_) rfl rfl (by kernel_rfl) (by kernel_rfl) (by kernel_rfl) (fun _ _ _ h => h) (Or.inl ⟨by kernel_rfl, ?_⟩) hHeld ?_
              rotate_left
              · intro wz hSw; go_simp; try (with_reducible rfl)
              try simp only [Act.put, List.setIfInBounds_toArray, List.set_cons_zero, List.set_cons_succ, List.getElem_toArray, List.getElem_cons_succ, List.getElem_cons_zero]
              refine wpAnyH_ready (rs := [10]) (by kernel_rfl) (by simp) (AllReadyH.cons rfl (fun K hK => ?_) AllReadyH.nil)
              rw [if_pos (by kernel_rfl)]
              go_simp
              refine (HRV.out _ hy1).mono ?_
              rintro e y2 ⟨rfl, hy2⟩
              try dsimp only
              refine hK.out _ _ (hy2.a.head) (fun hHeld => ?_)
              try simp only [Act.put, List.setIfInBounds_toArray, List.set_cons_zero, List.set_cons_succ, List.getElem_toArray, List.getElem_cons_succ, List.getElem_cons_zero]
              refine take_at (some 93) (i := 11) (v := ?_) rfl rfl (by kernel_rfl) (by kernel_rfl) (by kernel_rfl) (fun _ _ _ h => h) (Or.inl ⟨by kernel_rfl, ?_⟩) hHeld ?_
              rotate_left
              · intro wz hSw; go_simp; try (with_reducible rfl)
              try simp only [Act.put, List.setIfInBounds_toArray, List.set_cons_zero, List.set_cons_succ, List.getElem_toArray, List.getElem_cons_succ, List.getElem_cons_zero]
              refine take_at (some 94) (i := 12) (v := ?_) rfl rfl (by kernel_rfl) (by kernel_rfl) (by kernel_rfl) (fun _ _ _ h => h) (Or.inl ⟨by kernel_rfl, ?_⟩) hHeld ?_
              rotate_left
              · intro wz hSw; go_simp; try (with_reducible rfl)
              try simp only [Act.put, List.setIfInBounds_toArray, List.set_cons_zero, List.set_cons_succ, List.getElem_toArray, List.getElem_cons_succ, List.getElem_cons_zero]
              refine take_at (some 95) (i := 13) (v := ?_) rfl rfl (by kernel_rfl) (by kernel_rfl) (by kernel_rfl) (fun _ _ _ h => h) (Or.inl ⟨by kernel_rfl, ?_⟩) hHeld ?_
              rotate_left
              · intro wz hSw; go_simp; try (with_reducible rfl)
              try simp only [Act.put, List.setIfInBounds_toArray, List.set_cons_zero, List.set_cons_succ, List.getElem_toArray, List.getElem_cons_succ, List.getElem_cons_zero]
              refine take_at (some 96) (i := 14) (v := ?_) rfl rfl (by kernel_rfl) (by kernel_rfl) (by kernel_rfl) (fun _ _ _ h => h) (Or.inl ⟨by kernel_rfl, ?_⟩) hHeld ?_
              rotate_left
              · intro wz hSw; go_simp; try (with_reducible rfl)
              try simp only [Act.put, List.setIfInBounds_toArray, List.set_cons_zero, List.set_cons_succ, List.getElem_toArray, List.getElem_cons_succ, List.getElem_cons_zero]
              refine take_at (some 97) (i := 15) (v := ?_) rfl rfl (by kernel_rfl) (by kernel_rfl) (by kernel_rfl) (fun _ _ _ h => h) (Or.inl ⟨by kernel_rfl, ?_⟩) hHeld ?_
              rotate_left
              · intro wz hSw; go_simp; try (with_reducible rfl)
              try simp only [Act.put, List.setIfInBounds_toArray, List.set_cons_zero, List.set_cons_succ, List.getElem_toArray, List.getElem_cons_succ, List.getElem_cons_zero]
              refine take_at (some 98) (i := 16) (v := ?_) rfl rfl (by kernel_rfl) (by kernel_rfl) (by kernel_rfl) (fun _ _ _ h => h) (Or.inl ⟨by kernel_rfl, ?_⟩) hHeld ?_
              rotate_left
              · intro wz hSw; have k1 : wz.cell? ⟨gb, 1, none⟩ = some (.string xt) := hSw.cell 1; have k2 : wz.cell? ⟨gb, 2, none⟩ = some (.string xk) := hSw.cell 2; have k5 : wz.cell? ⟨gb, 5, none⟩ = some (.int .i64 xo) := hSw.cell 5; go_simp; try (with_reducible rfl)
              try simp only [Act.put, List.setIfInBounds_toArray, List.set_cons_zero, List.set_cons_succ, List.getElem_toArray, List.getElem_cons_succ, List.getElem_cons_zero]
              refine take_at (some 99) (i := 17) (v := ?_) rfl rfl (by kernel_rfl) (by kernel_rfl) (by kernel_rfl) (fun _ _ _ h => h) (Or.inl ⟨by kernel_rfl, ?_⟩) hHeld ?_
              rotate_left
              · intro wz hSw; have k1 : wz.cell? ⟨gb, 1, none⟩ = some (.string xt) := hSw.cell 1; have k2 : wz.cell? ⟨gb, 2, none⟩ = some (.string xk) := hSw.cell 2; have k5 : wz.cell? ⟨gb, 5, none⟩ = some (.int .i64 xo) := hSw.cell 5; go_simp; try (with_reducible rfl)
              try simp only [Act.put, List.setIfInBounds_toArray, List.set_cons_zero, List.set_cons_succ, List.getElem_toArray, List.getElem_cons_succ, List.getElem_cons_zero]
              refine take_at (some 100) (i := 18) (v := ?_) rfl rfl (by kernel_rfl) (by kernel_rfl) (by kernel_rfl) (fun _ _ _ h => h) (Or.inl ⟨by kernel_rfl, ?_⟩) hHeld ?_
              rotate_left
              · intro wz hSw; have k1 : wz.cell? ⟨gb, 1, none⟩ = some (.string xt) := hSw.cell 1; have k2 : wz.cell? ⟨gb, 2, none⟩ = some (.string xk) := hSw.cell 2; have k5 : wz.cell? ⟨gb, 5, none⟩ = some (.int .i64 xo) := hSw.cell 5; go_simp; try (with_reducible rfl)
              try simp only [Act.put, List.setIfInBounds_toArray, List.set_cons_zero, List.set_cons_succ, List.getElem_toArray, List.getElem_cons_succ, List.getElem_cons_zero]
              refine take_at (some 101) (i := 19) (v := ?_) rfl rfl (by kernel_rfl) (by kernel_rfl) (by kernel_rfl) (fun _ _ _ h => h) (Or.inl ⟨by kernel_rfl, ?_⟩) hHeld ?_
              rotate_left
              · intro wz hSw; have k1 : wz.cell? ⟨gb, 1, none⟩ = some (.string xt) := hSw.cell 1; have k2 : wz.cell? ⟨gb, 2, none⟩ = some (.string xk) := hSw.cell 2; have k5 : wz.cell? ⟨gb, 5, none⟩ = some (.int .i64 xo) := hSw.cell 5; go_simp; try (with_reducible rfl)
              try simp only [Act.put, List.setIfInBounds_toArray, List.set_cons_zero, List.set_cons_succ, List.getElem_toArray, List.getElem_cons_succ, List.getElem_cons_zero]
              refine take_at (some 102) (i := 20) (v := ?_) rfl rfl (by kernel_rfl) (by kernel_rfl) (by kernel_rfl) (fun _ _ _ h => h) (Or.inl ⟨by kernel_rfl, ?_⟩) hHeld ?_
              rotate_left
              · intro wz hSw; have k1 : wz.cell? ⟨gb, 1, none⟩ = some (.string xt) := hSw.cell 1; have k2 : wz.cell? ⟨gb, 2, none⟩ = some (.string xk) := hSw.cell 2; have k5 : wz.cell? ⟨gb, 5, none⟩ = some (.int .i64 xo) := hSw.cell 5; go_simp; try (with_reducible rfl)
              try simp only [Act.put, List.setIfInBounds_toArray, List.set_cons_zero, List.set_cons_succ, List.getElem_toArray, List.getElem_cons_succ, List.getElem_cons_zero]
              refine take_at (some 103) (i := 21) (v := ?_) rfl rfl (by kernel_rfl) (by kernel_rfl) (by kernel_rfl) (fun _ _ _ h => h) (Or.inl ⟨by kernel_rfl, ?_⟩) hHeld ?_
              rotate_left
              · intro wz hSw; have k1 : wz.cell? ⟨gb, 1, none⟩ = some (.string xt) := hSw.cell 1; have k2 : wz.cell? ⟨gb, 2, none⟩ = some (.string xk) := hSw.cell 2; have k5 : wz.cell? ⟨gb, 5, none⟩ = some (.int .i64 xo) := hSw.cell 5; go_simp; try (with_reducible rfl)
              try simp only [Act.put, List.setIfInBounds_toArray, List.set_cons_zero, List.set_cons_succ, List.getElem_toArray, List.getElem_cons_succ, List.getElem_cons_zero]
              refine take_at (some 104) (i := 22) (v := ?_) rfl rfl (by kernel_rfl) (by kernel_rfl) (by kernel_rfl) (fun _ _ _ h => h) (Or.inl ⟨by kernel_rfl, ?_⟩) hHeld ?_
              rotate_left
              · intro wz hSw; have k1 : wz.cell? ⟨gb, 1, none⟩ = some (.string xt) := hSw.cell 1; have k2 : wz.cell? ⟨gb, 2, none⟩ = some (.string xk) := hSw.cell 2; have k5 : wz.cell? ⟨gb, 5, none⟩ = some (.int .i64 xo) := hSw.cell 5; go_simp; try (with_reducible rfl)
              try simp only [Act.put, List.setIfInBounds_toArray, List.set_cons_zero, List.set_cons_succ, List.getElem_toArray, List.getElem_cons_succ, List.getElem_cons_zero]
              refine take_at (some 106) (i := 24) (v := ?_) rfl rfl (by kernel_rfl) (by kernel_rfl) (by kernel_rfl) (fun _ _ _ h => h) (Or.inl ⟨by kernel_rfl, ?_⟩) hHeld ?_
              rotate_left
              · intro wz hSw; have k1 : wz.cell? ⟨gb, 1, none⟩ = some (.string xt) := hSw.cell 1; have k2 : wz.cell? ⟨gb, 2, none⟩ = some (.string xk) := hSw.cell 2; have k5 : wz.cell? ⟨gb, 5, none⟩ = some (.int .i64 xo) := hSw.cell 5; go_simp; try (with_reducible rfl)
              try simp only [Act.put, List.setIfInBounds_toArray, List.set_cons_zero, List.set_cons_succ, List.getElem_toArray, List.getElem_cons_succ, List.getElem_cons_zero]
              refine take_at (some 107) (i := 25) (v := ?_) rfl rfl (by kernel_rfl) (by kernel_rfl) (by kernel_rfl) (fun _ _ _ h => h) (Or.inl ⟨by kernel_rfl, ?_⟩) hHeld ?_
              rotate_left
              · intro wz hSw; have k1 : wz.cell? ⟨gb, 1, none⟩ = some (.string xt) := hSw.cell 1; have k2 : wz.cell? ⟨gb, 2, none⟩ = some (.string xk) := hSw.cell 2; have k5 : wz.cell? ⟨gb, 5, none⟩ = some (.int .i64 xo) := hSw.cell 5; go_simp; try (with_reducible rfl)
              try simp only [Act.put, List.setIfInBounds_toArray, List.set_cons_zero, List.set_cons_succ, List.getElem_toArray, List.getElem_cons_succ, List.getElem_cons_zero]
              refine take_at (some 108) (i := 26) (v := ?_) rfl rfl (by kernel_rfl) (by kernel_rfl) (by kernel_rfl) (fun _ _ _ h => h) (Or.inl ⟨by kernel_rfl, ?_⟩) hHeld ?_
              rotate_left
              · intro wz hSw; have k1 : wz.cell? ⟨gb, 1, none⟩ = some (.string xt) := hSw.cell 1; have k2 : wz.cell? ⟨gb, 2, none⟩ = some (.string xk) := hSw.cell 2; have k5 : wz.cell? ⟨gb, 5, none⟩ = some (.int .i64 xo) := hSw.cell 5; go_simp; try (with_reducible rfl)
              try simp only [Act.put, List.setIfInBounds_toArray, List.set_cons_zero, List.set_cons_succ, List.getElem_toArray, List.getElem_cons_succ, List.getElem_cons_zero]
              refine take_at (some 109) (i := 27) (v := ?_) rfl rfl (by kernel_rfl) (by kernel_rfl) (by kernel_rfl) (fun _ _ _ h => h) (Or.inl ⟨by kernel_rfl, ?_⟩) hHeld ?_
              rotate_left
              · intro wz hSw; have k1 : wz.cell? ⟨gb, 1, none⟩ = some (.string xt) := hSw.cell 1; have k2 : wz.cell? ⟨gb, 2, none⟩ = some (.string xk) := hSw.cell 2; have k5 : wz.cell? ⟨gb, 5, none⟩ = some (.int .i64 xo) := hSw.cell 5; go_simp; try (with_reducible rfl)
              try simp only [Act.put, List.setIfInBounds_toArray, List.set_cons_zero, List.set_cons_succ, List.getElem_toArray, List.getElem_cons_succ, List.getElem_cons_zero]
              refine take_at (some 110) (i := 28) (v := ?_) rfl rfl (by kernel_rfl) (by kernel_rfl) (by kernel_rfl) (fun _ _ _ h => h) (Or.inl ⟨by kernel_rfl, ?_⟩) hHeld ?_
              rotate_left
              · intro wz hSw; have k1 : wz.cell? ⟨gb, 1, none⟩ = some (.string xt) := hSw.cell 1; have k2 : wz.cell? ⟨gb, 2, none⟩ = some (.string xk) := hSw.cell 2; have k5 : wz.cell? ⟨gb, 5, none⟩ = some (.int .i64 xo) := hSw.cell 5; go_simp; try (with_reducible rfl)
              try simp only [Act.put, List.setIfInBounds_toArray, List.set_cons_zero, List.set_cons_succ, List.getElem_toArray, List.getElem_cons_succ, List.getElem_cons_zero]
              refine take_at (some 111) (i := 29) (v := ?_) rfl rfl (by kernel_rfl) (by kernel_rfl) (by kernel_rfl) (fun _ _ _ h => h) (Or.inl ⟨by kernel_rfl, ?_⟩) hHeld ?_
              rotate_left
              · intro wz hSw; have k1 : wz.cell? ⟨gb, 1, none⟩ = some (.string xt) := hSw.cell 1; have k2 : wz.cell? ⟨gb, 2, none⟩ = some (.string xk) := hSw.cell 2; have k5 : wz.cell? ⟨gb, 5, none⟩ = some (.int .i64 xo) := hSw.cell 5; go_simp; try (with_reducible rfl)
              try simp only [Act.put, List.setIfInBounds_toArray, List.set_cons_zero, List.set_cons_succ, List.getElem_toArray, List.getElem_cons_succ, List.getElem_cons_zero]
              refine take_at (some 112) (i := 30) (v := ?_) rfl rfl (by kernel_rfl) (by kernel_rfl) (by kernel_rfl) (fun _ _ _ h => h) (Or.inl ⟨by kernel_rfl, ?_⟩) hHeld ?_
              rotate_left
              · intro wz hSw; have k1 : wz.cell? ⟨gb, 1, none⟩ = some (.string xt) := hSw.cell 1; have k2 : wz.cell? ⟨gb, 2, none⟩ = some (.string xk) := hSw.cell 2; have k5 : wz.cell? ⟨gb, 5, none⟩ = some (.int .i64 xo) := hSw.cell 5; go_simp; try (with_reducible rfl)
              try simp only [Act.put, List.setIfInBounds_toArray, List.set_cons_zero, List.set_cons_succ, List.getElem_toArray, List.getElem_cons_succ, List.getElem_cons_zero]
              refine wpAnyH_ready (rs := [23]) (by kernel_rfl) (by simp) (AllReadyH.cons rfl (fun K hK => ?_) AllReadyH.nil)
              rw [if_pos (by kernel_rfl)]
              go_simp
              refine (hx1 _ hy2).mono ?_
              rintro e y3 ⟨rfl, hy3⟩
              try dsimp only
              refine hK.out _ _ (hy3.a.head) (fun hHeld => ?_)
              try simp only [Act.put, List.setIfInBounds_toArray, List.set_cons_zero, List.set_cons_succ, List.getElem_toArray, List.getElem_cons_succ, List.getElem_cons_zero]
              refine wpAnyH_ready (rs := [31]) (by kernel_rfl) (by simp) (AllReadyH.cons rfl (fun K hK => ?_) AllReadyH.nil)
              rw [if_pos (by kernel_rfl)]
              go_simp
              refine (hx2 _ hy3).mono ?_
              rintro e y4 ⟨rfl, hy4⟩
              try dsimp only
              refine hK.out _ _ (hy4.a.head) (fun hHeld => ?_)
              try simp only [Act.put, List.setIfInBounds_toArray, List.set_cons_zero, List.set_cons_succ, List.getElem_toArray, List.getElem_cons_succ, List.getElem_cons_zero]
              refine take_at (some 114) (i := 32) (v := ?_) rfl rfl (by kernel_rfl) (by kernel_rfl) (by kernel_rfl) (fun _ _ _ h => h) (Or.inl ⟨by kernel_rfl, ?_⟩) hHeld ?_
              rotate_left
              · intro wz hSw; go_simp; try (with_reducible rfl)
              try simp only [Act.put, List.setIfInBounds_toArray, List.set_cons_zero, List.set_cons_succ, List.getElem_toArray, List.getElem_cons_succ, List.getElem_cons_zero]
              refine take_at (some 115) (i := 33) (v := ?_) rfl rfl (by kernel_rfl) (by kernel_rfl) (by kernel_rfl) (fun _ _ _ h => h) (Or.inl ⟨by kernel_rfl, ?_⟩) hHeld ?_
              rotate_left
              · intro wz hSw; go_simp; try (with_reducible rfl)
              try simp only [Act.put, List.setIfInBounds_toArray, List.set_cons_zero, List.set_cons_succ, List.getElem_toArray, List.getElem_cons_succ, List.getElem_cons_zero]
              refine take_at (some 116) (i := 34) (v := ?_) rfl rfl (by kernel_rfl) (by kernel_rfl) (by kernel_rfl) (fun _ _ _ h => h) (Or.inl ⟨by kernel_rfl, ?_⟩) hHeld ?_
              rotate_left
              · intro wz hSw; go_simp; try (with_reducible rfl)
              try simp only [Act.put, List.setIfInBounds_toArray, List.set_cons_zero, List.set_cons_succ, List.getElem_toArray, List.getElem_cons_succ, List.getElem_cons_zero]
              refine wpAnyH_done (by kernel_rfl) ?_ _
              refine gen_qH (fun y => Lg w v mb v2 m2 tn gg g2 [(gb, 34, #[.int .i64 xw, .string xt, .string xk, .string xn, .string xp, .int .i64 xo]), (g0, 24, #[.int .i64 a0, .int .i64 a1, .int .i64 a2, .int .i64 a3, .slice A n c])] y) hy4 (fun y hy => ?_)
              have HGE := Lib.hid (hy.less (L' := [(g0, 24, #[.int .i64 a0, .int .i64 a1, .int .i64 a2, .int .i64 a3, .slice A n c])]) (fun b hb => List.mem_cons_of_mem _ hb))
              clear hy hHeld
              go_wp2
              go_roundw
              case rel => exact ⟨i + 1, gg, g2, by omega, by go_num, Lib.hid HL9.out, HQ9, HGE⟩
              case measure => simp [intOf]; omega
              | true =>
              go_upto_region 15 with fail
              clear d1 d2 d5
              try simp only [List.cons_append, List.nil_append]
              refine wp_region_held_drew (S := fun wz => Bk wz gb 34 #[.int .i64 xw, .string xt, .string xk, .string xn, .string xp, .int .i64 xo]) (by kernel_rfl) (HVN.out.a.head.drew) (fun hHeld => ?_)
              refine take_at (some 82) (i := 0) (v := ?_) rfl rfl (by kernel_rfl) (by kernel_rfl) (by kernel_rfl) (fun _ _ _ h => h) (Or.inl ⟨by kernel_rfl, ?_⟩) hHeld ?_
              rotate_left
              · intro wz hSw; have k1 : wz.cell? ⟨gb, 1, none⟩ = some (.string xt) := hSw.cell 1; have k2 : wz.cell? ⟨gb, 2, none⟩ = some (.string xk) := hSw.cell 2; have k5 : wz.cell? ⟨gb, 5, none⟩ = some (.int .i64 xo) := hSw.cell 5; go_simp; try (with_reducible rfl)
              try simp only [Act.put, List.setIfInBounds_toArray, List.set_cons_zero, List.set_cons_succ, List.getElem_toArray, List.getElem_cons_succ, List.getElem_cons_zero]
              refine take_at (some 83) (i := 1) (v := ?_) rfl rfl (by kernel_rfl) (by kernel_rfl) (by kernel_rfl) (fun _ _ _ h => h) (Or.inl ⟨by kernel_rfl, ?_⟩) hHeld ?_
              rotate_left
              · intro wz hSw; have k1 : wz.cell? ⟨gb, 1, none⟩ = some (.string xt) := hSw.cell 1; have k2 : wz.cell? ⟨gb, 2, none⟩ = some (.string xk) := hSw.cell 2; have k5 : wz.cell? ⟨gb, 5, none⟩ = some (.int .i64 xo) := hSw.cell 5; go_simp; try (with_reducible rfl)
              try simp only [Act.put, List.setIfInBounds_toArray, List.set_cons_zero, List.set_cons_succ, List.getElem_toArray, List.getElem_cons_succ, List.getElem_cons_zero]
              refine take_at (some 84) (i := 2) (v := ?_) rfl rfl (by kernel_rfl) (by kernel_rfl) (by kernel_rfl) (fun _ _ _ h => h) (Or.inl ⟨by kernel_rfl, ?_⟩) hHeld ?_
              rotate_left
              · intro wz hSw; have k1 : wz.cell? ⟨gb, 1, none⟩ = some (.string xt) := hSw.cell 1; have k2 : wz.cell? ⟨gb, 2, none⟩ = some (.string xk) := hSw.cell 2; have k5 : wz.cell? ⟨gb, 5, none⟩ = some (.int .i64 xo) := hSw.cell 5; go_simp; try (with_reducible rfl)
              try simp only [Act.put, List.setIfInBounds_toArray, List.set_cons_zero, List.set_cons_succ, List.getElem_toArray, List.getElem_cons_succ, List.getElem_cons_zero]
              refine take_at (some 85) (i := 3) (v := ?_) rfl rfl (by kernel_rfl) (by kernel_rfl) (by kernel_rfl) (fun _ _ _ h => h) (Or.inl ⟨by kernel_rfl, ?_⟩) hHeld ?_
              rotate_left
              · intro wz hSw; have k1 : wz.cell? ⟨gb, 1, none⟩ = some (.string xt) := hSw.cell 1; have k2 : wz.cell? ⟨gb, 2, none⟩ = some (.string xk) := hSw.cell 2; have k5 : wz.cell? ⟨gb, 5, none⟩ = some (.int .i64 xo) := hSw.cell 5; go_simp; try (with_reducible rfl)
              try simp only [Act.put, List.setIfInBounds_toArray, List.set_cons_zero, List.set_cons_succ, List.getElem_toArray, List.getElem_cons_succ, List.getElem_cons_zero]
              refine take_at (some 86) (i := 4) (v := ?_) rfl rfl (by kernel_rfl) (by kernel_rfl) (by kernel_rfl) (fun _ _ _ h => h) (Or.inl ⟨by kernel_rfl, ?_⟩) hHeld ?_
              rotate_left
              · intro wz hSw; have k1 : wz.cell? ⟨gb, 1, none⟩ = some (.string xt) := hSw.cell 1; have k2 : wz.cell? ⟨gb, 2, none⟩ = some (.string xk) := hSw.cell 2; have k5 : wz.cell? ⟨gb, 5, none⟩ = some (.int .i64 xo) := hSw.cell 5; go_simp; try (with_reducible rfl)
              try simp only [Act.put, List.setIfInBounds_toArray, List.set_cons_zero, List.set_cons_succ, List.getElem_toArray, List.getElem_cons_succ, List.getElem_cons_zero]
              refine wpAnyH_ready (rs := [5]) (by kernel_rfl) (by simp) (AllReadyH.cons rfl (fun K hK => ?_) AllReadyH.nil)
              rw [if_pos (by kernel_rfl)]
              go_simp
              refine (HGD.out _ (HVN.out.on (Below.refl wn.heap.size wn).drew)).mono ?_
              rintro e y1 ⟨rfl, hy1⟩
              try dsimp only
              refine hK.out _ _ (hy1.a.head) (fun hHeld => ?_)
              try simp only [Act.put, List.setIfInBounds_toArray, List.set_cons_zero, List.set_cons_succ, List.getElem_toArray, List.getElem_cons_succ, List.getElem_cons_zero]
              refine take_at (some 88) (i := 6) (v := ?_) rfl rfl (by kernel_rfl) (by kernel_rfl) (by kernel_rfl) (fun _ _ _ h => h) (Or.inl ⟨by kernel_rfl, ?_⟩) hHeld ?_
              rotate_left
              · intro wz hSw; go_simp; try (with_reducible rfl)
              try simp only [Act.put, List.setIfInBounds_toArray, List.set_cons_zero, List.set_cons_succ, List.getElem_toArray, List.getElem_cons_succ, List.getElem_cons_zero]
              refine take_at (some 89) (i := 7) (v := ?_) rfl rfl (by kernel_rfl) (by kernel_rfl) (by kernel_rfl) (fun _ _ _ h => h) (Or.inl ⟨by kernel_rfl, ?_⟩) hHeld ?_
              rotate_left
              · intro wz hSw; go_simp; try (with_reducible rfl)
              try simp only [Act.put, List.setIfInBounds_toArray, List.set_cons_zero, List.set_cons_succ, List.getElem_toArray, List.getElem_cons_succ, List.getElem_cons_zero]
              refine take_at (some 90) (i := 8) (v := ?_) rfl rfl (by kernel_rfl) (by kernel_rfl) (by kernel_rfl) (fun _ _ _ h => h) (Or.inl ⟨by kernel_rfl, ?_⟩) hHeld ?_
              rotate_left
              · intro wz hSw; go_simp; try (with_reducible rfl)
              try simp only [Act.put, List.setIfInBounds_toArray, List.set_cons_zero, List.set_cons_succ, List.getElem_toArray, List.getElem_cons_succ, List.getElem_cons_zero]
              refine take_at (some 91) (i := 9) (v := ?_) rfl rfl (by kernel_rfl) (by kernel_rfl) (by kernel_rfl) (fun _ _ _ h => h) (Or.inl ⟨by kernel_rfl, ?_⟩) hHeld ?_
              rotate_left
              · intro wz hSw; go_simp; try (with_reducible rfl)
              try simp only [Act.put, List.setIfInBounds_toArray, List.set_cons_zero, List.set_cons_succ, List.getElem_toArray, List.getElem_cons_succ, List.getElem_cons_zero]
              refine wpAnyH_ready (rs := [10]) (by kernel_rfl) (by simp) (AllReadyH.cons rfl (fun K hK => ?_) AllReadyH.nil)
              rw [if_pos (by kernel_rfl)]
              go_simp
              refine (HRV.out _ hy1).mono ?_
              rintro e y2 ⟨rfl, hy2⟩
              try dsimp only
              refine hK.out _ _ (hy2.a.head) (fun hHeld => ?_)
              try simp only [Act.put, List.setIfInBounds_toArray, List.set_cons_zero, List.set_cons_succ, List.getElem_toArray, List.getElem_cons_succ, List.getElem_cons_zero]
              refine take_at (some 93) (i := 11) (v := ?_) rfl rfl (by kernel_rfl) (by kernel_rfl) (by kernel_rfl) (fun _ _ _ h => h) (Or.inl ⟨by kernel_rfl, ?_⟩) hHeld ?_
              rotate_left
              · intro wz hSw; go_simp; try (with_reducible rfl)
              try simp only [Act.put, List.setIfInBounds_toArray, List.set_cons_zero, List.set_cons_succ, List.getElem_toArray, List.getElem_cons_succ, List.getElem_cons_zero]
              refine take_at (some 94) (i := 12) (v := ?_) rfl rfl (by kernel_rfl) (by kernel_rfl) (by kernel_rfl) (fun _ _ _ h => h) (Or.inl ⟨by kernel_rfl, ?_⟩) hHeld ?_
              rotate_left
              · intro wz hSw; go_simp; try (with_reducible rfl)
              try simp only [Act.put, List.setIfInBounds_toArray, List.set_cons_zero, List.set_cons_succ, List.getElem_toArray, List.getElem_cons_succ, List.getElem_cons_zero]
              refine take_at (some 95) (i := 13) (v := ?_) rfl rfl (by kernel_rfl) (by kernel_rfl) (by kernel_rfl) (fun _ _ _ h => h) (Or.inl ⟨by kernel_rfl, ?_⟩) hHeld ?_
              rotate_left
              · intro wz hSw; go_simp; try (with_reducible rfl)
              try simp only [Act.put, List.setIfInBounds_toArray, List.set_cons_zero, List.set_cons_succ, List.getElem_toArray, List.getElem_cons_succ, List.getElem_cons_zero]
              refine take_at (some 96) (i := 14) (v := ?_) rfl rfl (by kernel_rfl) (by kernel_rfl) (by kernel_rfl) (fun _ _ _ h => h) (Or.inl ⟨by kernel_rfl, ?_⟩) hHeld ?_
              rotate_left
              · intro wz hSw; go_simp; try (with_reducible rfl)
              try simp only [Act.put, List.setIfInBounds_toArray, List.set_cons_zero, List.set_cons_succ, List.getElem_toArray, List.getElem_cons_succ, List.getElem_cons_zero]
              refine take_at (some 97) (i := 15) (v := ?_) rfl rfl (by kernel_rfl) (by kernel_rfl) (by kernel_rfl) (fun _ _ _ h => h) (Or.inl ⟨by kernel_rfl, ?_⟩) hHeld ?_
              rotate_left
              · intro wz hSw; go_simp; try (with_reducible rfl)
              try simp only [Act.put, List.setIfInBounds_toArray, List.set_cons_zero, List.set_cons_succ, List.getElem_toArray, List.getElem_cons_succ, List.getElem_cons_zero]
              refine take_at (some 98) (i := 16) (v := undef) rfl rfl (by kernel_rfl) (by kernel_rfl) (by kernel_rfl) (fun _ _ _ h => h) (Or.inr ⟨by kernel_rfl, rfl⟩) hHeld ?_
              try simp only [Act.put, List.setIfInBounds_toArray, List.set_cons_zero, List.set_cons_succ, List.getElem_toArray, List.getElem_cons_succ, List.getElem_cons_zero]
              refine take_at (some 99) (i := 17) (v := undef) rfl rfl (by kernel_rfl) (by kernel_rfl) (by kernel_rfl) (fun _ _ _ h => h) (Or.inr ⟨by kernel_rfl, rfl⟩) hHeld ?_
              try simp only [Act.put, List.setIfInBounds_toArray, List.set_cons_zero, List.set_cons_succ, List.getElem_toArray, List.getElem_cons_succ, List.getElem_cons_zero]
              refine take_at (some 100) (i := 18) (v := undef) rfl rfl (by kernel_rfl) (by kernel_rfl) (by kernel_rfl) (fun _ _ _ h => h) (Or.inr ⟨by kernel_rfl, rfl⟩) hHeld ?_
              try simp only [Act.put, List.setIfInBounds_toArray, List.set_cons_zero, List.set_cons_succ, List.getElem_toArray, List.getElem_cons_succ, List.getElem_cons_zero]
              refine take_at (some 101) (i := 19) (v := undef) rfl rfl (by kernel_rfl) (by kernel_rfl) (by kernel_rfl) (fun _ _ _ h => h) (Or.inr ⟨by kernel_rfl, rfl⟩) hHeld ?_
              try simp only [Act.put, List.setIfInBounds_toArray, List.set_cons_zero, List.set_cons_succ, List.getElem_toArray, List.getElem_cons_succ, List.getElem_cons_zero]
              refine take_at (some 102) (i := 20) (v := undef) rfl rfl (by kernel_rfl) (by kernel_rfl) (by kernel_rfl) (fun _ _ _ h => h) (Or.inr ⟨by kernel_rfl, rfl⟩) hHeld ?_
              try simp only [Act.put, List.setIfInBounds_toArray, List.set_cons_zero, List.set_cons_succ, List.getElem_toArray, List.getElem_cons_succ, List.getElem_cons_zero]
              refine take_at (some 103) (i := 21) (v := undef) rfl rfl (by kernel_rfl) (by kernel_rfl) (by kernel_rfl) (fun _ _ _ h => h) (Or.inr ⟨by kernel_rfl, rfl⟩) hHeld ?_
              try simp only [Act.put, List.setIfInBounds_toArray, List.set_cons_zero, List.set_cons_succ, List.getElem_toArray, List.getElem_cons_succ, List.getElem_cons_zero]
              refine take_at (some 104) (i := 22) (v := undef) rfl rfl (by kernel_rfl) (by kernel_rfl) (by kernel_rfl) (fun _ _ _ h => h) (Or.inr ⟨by kernel_rfl, rfl⟩) hHeld ?_
              try simp only [Act.put, List.setIfInBounds_toArray, List.set_cons_zero, List.set_cons_succ, List.getElem_toArray, List.getElem_cons_succ, List.getElem_cons_zero]
              refine take_at (some 105) (i := 23) (v := undef) rfl rfl (by kernel_rfl) (by kernel_rfl) (by kernel_rfl) (fun _ _ _ h => h) (Or.inr ⟨by kernel_rfl, rfl⟩) hHeld ?_
              try simp only [Act.put, List.setIfInBounds_toArray, List.set_cons_zero, List.set_cons_succ, List.getElem_toArray, List.getElem_cons_succ, List.getElem_cons_zero]
              refine take_at (some 106) (i := 24) (v := undef) rfl rfl (by kernel_rfl) (by kernel_rfl) (by kernel_rfl) (fun _ _ _ h => h) (Or.inr ⟨by kernel_rfl, rfl⟩) hHeld ?_
              try simp only [Act.put, List.setIfInBounds_toArray, List.set_cons_zero, List.set_cons_succ, List.getElem_toArray, List.getElem_cons_succ, List.getElem_cons_zero]
              refine take_at (some 107) (i := 25) (v := undef) rfl rfl (by kernel_rfl) (by kernel_rfl) (by kernel_rfl) (fun _ _ _ h => h) (Or.inr ⟨by kernel_rfl, rfl⟩) hHeld ?_
              try simp only [Act.put, List.setIfInBounds_toArray, List.set_cons_zero, List.set_cons_succ, List.getElem_toArray, List.getElem_cons_succ, List.getElem_cons_zero]
              refine take_at (some 108) (i := 26) (v := undef) rfl rfl (by kernel_rfl) (by kernel_rfl) (by kernel_rfl) (fun _ _ _ h => h) (Or.inr ⟨by kernel_rfl, rfl⟩) hHeld ?_
              try simp only [Act.put, List.setIfInBounds_toArray, List.set_cons_zero, List.set_cons_succ, List.getElem_toArray, List.getElem_cons_succ, List.getElem_cons_zero]
              refine take_at (some 109) (i := 27) (v := undef) rfl rfl (by kernel_rfl) (by kernel_rfl) (by kernel_rfl) (fun _ _ _ h => h) (Or.inr ⟨by kernel_rfl, rfl⟩) hHeld ?_
              try simp only [Act.put, List.setIfInBounds_toArray, List.set_cons_zero, List.set_cons_succ, List.getElem_toArray, List.getElem_cons_succ, List.getElem_cons_zero]
              refine take_at (some 110) (i := 28) (v := undef) rfl rfl (by kernel_rfl) (by kernel_rfl) (by kernel_rfl) (fun _ _ _ h => h) (Or.inr ⟨by kernel_rfl, rfl⟩) hHeld ?_
              try simp only [Act.put, List.setIfInBounds_toArray, List.set_cons_zero, List.set_cons_succ, List.getElem_toArray, List.getElem_cons_succ, List.getElem_cons_zero]
              refine take_at (some 111) (i := 29) (v := undef) rfl rfl (by kernel_rfl) (by kernel_rfl) (by kernel_rfl) (fun _ _ _ h => h) (Or.inr ⟨by kernel_rfl, rfl⟩) hHeld ?_
              try simp only [Act.put, List.setIfInBounds_toArray, List.set_cons_zero, List.set_cons_succ, List.getElem_toArray, List.getElem_cons_succ, List.getElem_cons_zero]
              refine take_at (some 112) (i := 30) (v := undef) rfl rfl (by kernel_rfl) (by kernel_rfl) (by kernel_rfl) (fun _ _ _ h => h) (Or.inr ⟨by kernel_rfl, rfl⟩) hHeld ?_
              try simp only [Act.put, List.setIfInBounds_toArray, List.set_cons_zero, List.set_cons_succ, List.getElem_toArray, List.getElem_cons_succ, List.getElem_cons_zero]
              refine take_at (some 113) (i := 31) (v := undef) rfl rfl (by kernel_rfl) (by kernel_rfl) (by kernel_rfl) (fun _ _ _ h => h) (Or.inr ⟨by kernel_rfl, rfl⟩) hHeld ?_
              try simp only [Act.put, List.setIfInBounds_toArray, List.set_cons_zero, List.set_cons_succ, List.getElem_toArray, List.getElem_cons_succ, List.getElem_cons_zero]
              refine take_at (some 114) (i := 32) (v := undef) rfl rfl (by kernel_rfl) (by kernel_rfl) (by kernel_rfl) (fun _ _ _ h => h) (Or.inr ⟨by kernel_rfl, rfl⟩) hHeld ?_
              try simp only [Act.put, List.setIfInBounds_toArray, List.set_cons_zero, List.set_cons_succ, List.getElem_toArray, List.getElem_cons_succ, List.getElem_cons_zero]
              refine take_at (some 115) (i := 33) (v := ?_) rfl rfl (by kernel_rfl) (by kernel_rfl) (by kernel_rfl) (fun _ _ _ h => h) (Or.inl ⟨by kernel_rfl, ?_⟩) hHeld ?_
              rotate_left
              · intro wz hSw; go_simp; try (with_reducible rfl)
              try simp only [Act.put, List.setIfInBounds_toArray, List.set_cons_zero, List.set_cons_succ, List.getElem_toArray, List.getElem_cons_succ, List.getElem_cons_zero]
              refine take_at (some 116) (i := 34) (v := ?_) rfl rfl (by kernel_rfl) (by kernel_rfl) (by kernel_rfl) (fun _ _ _ h => h) (Or.inl ⟨by kernel_rfl, ?_⟩) hHeld ?_
              rotate_left
              · intro wz hSw; go_simp; try (with_reducible rfl)
              try simp only [Act.put, List.setIfInBounds_toArray, List.set_cons_zero, List.set_cons_succ, List.getElem_toArray, List.getElem_cons_succ, List.getElem_cons_zero]
              refine wpAnyH_done (by kernel_rfl) ?_ _
              refine gen_qH (fun y => Lg w v mb v2 m2 tn gg g2 [(gb, 34, #[.int .i64 xw, .string xt, .string xk, .string xn, .string xp, .int .i64 xo]), (g0, 24, #[.int .i64 a0, .int .i64 a1, .int .i64 a2, .int .i64 a3, .slice A n c])] y) hy2 (fun y hy => ?_)
              have HGE := Lib.hid (hy.less (L' := [(g0, 24, #[.int .i64 a0, .int .i64 a1, .int .i64 a2, .int .i64 a3, .slice A n c])]) (fun b hb => List.mem_cons_of_mem _ hb))
              clear hy hHeld
              go_wp2
              go_roundw
              case rel => exact ⟨i + 1, gg, g2, by omega, by go_num, Lib.hid HL9.out, HQ9, HGE⟩
              case measure => simp [intOf]; omega
        · have hi2 : ¬ (i : Int) < (nl : Int) := by omega
          go_wp2
          go_ret
          exact ⟨rfl, HV.out.a.l⟩
    · have hm2 : (2000 : Int) < (m : Int) := by omega
      have hm3 : (m : Int) > 2000 := by omega
      go_wp2_with (first
        | (go_at_call 10; (with_reducible refine (HGR.out _ HG3.out.a.l).mono ?_); rintro e u4 ⟨g, rfl, _, hb⟩; have HG4 := Lib.hid (HG3.out.on hb); clear hb; cases g)
        | (go_at_call 11; (with_reducible refine (HGO.out _ HG4.out.a.l).mono ?_); rintro e u5 ⟨g2, rfl, hob, hb⟩; have HG5 := Lib.hid (HG4.out.on hb); have HOB := Lib.hid hob; clear hb hob; cases g2))
      all_goals go_ret
      all_goals (first | exact ⟨rfl, HG5.out.a.l⟩ | exact ⟨rfl, HG4.out.a.l⟩)
end Go.Proofs.YtijboiepockmjaaDoor
