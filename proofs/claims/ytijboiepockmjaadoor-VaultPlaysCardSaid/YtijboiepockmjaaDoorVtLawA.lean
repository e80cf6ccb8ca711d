/- VaultPlays: the walk. (Written by gen_vtplays.py.) -/
import Derived.Test.YtijboiepockmjaaDoorVtRefN
namespace Go.Proofs.YtijboiepockmjaaDoor
set_option linter.unusedVariables false
set_option maxRecDepth 100000
set_option linter.unusedSimpArgs false
open Go.RowKit

/-- The two vaults, side by side: ub is the world behind vault.New, wb the one at which the loop begins. -/
structure Pl (ub wb : World) (mb rb : Nat) (x : Rcf) (g P : Rev) (L : List (Nat × TypeId × Array Value)) (u : World) : Prop where
  k : Ke [mb] ub u
  m : Mv u mb g
  z : Rz u rb wb.heap.size x P
  kb : ∀ b ∈ L, Bk u b.1 b.2.1 b.2.2
structure Pb (w ub wb : World) (v mb rb : Nat) (c : List Tn) (x : Rcf) : Prop where
  hv : Lv w v mb c [] [] ub
  hr : ub.heap.size ≤ rb
  hw : ub.heap.size ≤ wb.heap.size
  hx : RcfB w x
  ht : ∀ a b, tkT x.ts a b = tkN c a b
section
variable {w ub wb u u' : World} {v mb rb : Nat} {c : List Tn} {x : Rcf} {g P g' : Rev} {L L' : List (Nat × TypeId × Array Value)}
theorem Pl.on (h : Pl ub wb mb rb x g P L u) (hb : Below u.heap.size u u') : Pl ub wb mb rb x g P L u' :=
  ⟨h.k.trans (Ke.of hb).nil, h.m.ke (Ke.of hb) (by simp), h.z.on hb, fun b hL => (h.kb b hL).below hb (h.kb b hL).lt⟩
theorem Pl.new (h : Pl ub wb mb rb x g P L u) (t : TypeId) (cs : Array Value) : Pl ub wb mb rb x g P ((u.heap.size, t, cs) :: L) (u.alloc (.cells cs t)) := by
  have hb := (Below.refl u.heap.size u).alloc (Nat.le_refl _) (.cells cs t)
  refine ⟨h.k.trans (Ke.of hb).nil, h.m.ke (Ke.of hb) (by simp), h.z.on hb, fun b hL => ?_⟩
  rcases List.mem_cons.1 hL with rfl | hL
  · exact Bk.new u t cs
  · exact (h.kb b hL).below hb (h.kb b hL).lt
theorem Pl.less (h : Pl ub wb mb rb x g P L u) (hL : ∀ b ∈ L', b ∈ L) : Pl ub wb mb rb x g P L' u := ⟨h.k, h.m, h.z, fun b hb => h.kb b (hL b hb)⟩
theorem Pl.head {b : Nat} {t : TypeId} {cs : Array Value} (h : Pl ub wb mb rb x g P ((b, t, cs) :: L) u) : Bk u b t cs := h.kb _ (List.mem_cons_self ..)
theorem Pb.va (b : Pb w ub wb v mb rb c x) (h : Pl ub wb mb rb x g P L u) : Va u v mb c g := b.hv.va.own h.k h.m
theorem Pb.low (b : Pb w ub wb v mb rb c x) (h : Pl ub wb mb rb x g P L u) : Below w.heap.size w u := b.hv.l.trans (h.k.below b.hv.l.size (fun y hy => by obtain rfl := List.mem_singleton.1 hy; exact b.hv.lv))
theorem pl_good (b : Pb w ub wb v mb rb c x) (h : Pl ub wb mb rb x g P L u) (s t : ByteArray) (now : Int) : Calls Tryd.prog 16 #[.pointer (some ⟨v, 0, none⟩), .string s, .string t, .int .i64 now] u fun e u' => e = .returned (.bool (gdB (tkN c s t) (inR g s t) now)) ∧ Pl ub wb mb rb x g P L u' :=
  (vgood_ok u v mb c g (b.va h) s t now).mono fun e u' hh => ⟨hh.1, h.on hh.2⟩
theorem pl_want (b : Pb w ub wb v mb rb c x) (h : Pl ub wb mb rb x g P L u) (hG : Gl w) (s t n : ByteArray) (hn : n.size ≤ 140737488355328) : Calls Tryd.prog 18 #[.pointer (some ⟨v, 0, none⟩), .string s, .string t, .string n] u fun e u' => e = .returned (.string ⟨(wnB (tkN c s t) s t n).toArray⟩) ∧ Pl ub wb mb rb x g P L u' :=
  (vwant_ok u v mb c g (b.va h) (hG.below (b.low h) hG.size) s t n hn).mono fun e u' hh => ⟨hh.1, h.on hh.2⟩
theorem pl_check (b : Pb w ub wb v mb rb c x) (h : Pl ub wb mb rb x g P L u) (hG : Gl w) (s t n p : ByteArray) (now : Int) (hn : n.size ≤ 140737488355328) (hp : p.size ≤ 1099511627776) : Calls Tryd.prog 20 #[.pointer (some ⟨v, 0, none⟩), .string s, .string t, .string n, .string p, .int .i64 now] u fun e u' => e = .returned (.int .i64 (ckI (gdB (tkN c s t) (inR g s t) now) (wnB (tkN c s t) s t n) p)) ∧ Pl ub wb mb rb x g P L u' :=
  (vcheck_ok u v mb c g (b.va h) (hG.below (b.low h) hG.size) s t n p now hn hp).mono fun e u' hh => ⟨hh.1, h.on hh.2⟩
theorem pl_rev (b : Pb w ub wb v mb rb c x) (h : Pl ub wb mb rb x g P L u) (hg : g.length ≤ 1099511627776) (s t : ByteArray) : Calls Tryd.prog 14 #[.pointer (some ⟨v, 0, none⟩), .string s, .string t] u fun e u' => e = .returned (.bool (rvB (tkN c s t) (inR g s t))) ∧ Pl ub wb mb rb x (rvG (tkN c s t) g s t) P L u' :=
  (vrev_ok u v mb c g (b.va h) hg s t).mono fun e u' hh => by
    obtain ⟨h1, h2, k⟩ := hh
    obtain ⟨es, ck, he⟩ := h.m.block
    exact ⟨h1, h.k.trans k, h2.mp, h.z.keM k h.m, fun b hL => (h.kb b hL).keM k he⟩
theorem pl_rgood (b : Pb w ub wb v mb rb c x) (h : Pl ub wb mb rb x g P L u) (hl : P.length ≤ 1000) (s t : ByteArray) (now : Int) : Calls Tryd.prog 17 #[.pointer (some ⟨rb, 0, none⟩), .string s, .string t, .int .i64 now] u fun e u' => e = .returned (.bool (gdB (tkN c s t) (inR P s t) now)) ∧ Pl ub wb mb rb x g P L u' :=
  (rvgood_ok x rb _ P s t now u h.z (b.hx.on (b.low h)) hl).mono fun e u' hh => ⟨by rw [hh.1, b.ht], h.on hh.2⟩
theorem pl_rwant (b : Pb w ub wb v mb rb c x) (h : Pl ub wb mb rb x g P L u) (s t n : ByteArray) (hs : s.size ≤ 140737488355328) (ht : t.size ≤ 140737488355328) (hn : n.size ≤ 140737488355328) (hsec : ∀ k, tkN c s t = some k → k.sec.size ≤ 32) : Calls Tryd.prog 19 #[.pointer (some ⟨rb, 0, none⟩), .string s, .string t, .string n] u fun e u' => e = .returned (.string ⟨(wnB (tkN c s t) s t n).toArray⟩) ∧ Pl ub wb mb rb x g P L u' :=
  (rvwant_ok x rb _ P s t n u h.z (b.hx.on (b.low h)) hs ht hn (fun k hk => hsec k (by rw [← b.ht]; exact hk))).mono fun e u' hh => ⟨by rw [hh.1, b.ht], h.on hh.2⟩
theorem pl_rcheck (b : Pb w ub wb v mb rb c x) (h : Pl ub wb mb rb x g P L u) (hl : P.length ≤ 1000) (s t n p : ByteArray) (now : Int) (hs : s.size ≤ 140737488355328) (ht : t.size ≤ 140737488355328) (hn : n.size ≤ 140737488355328) (hsec : ∀ k, tkN c s t = some k → k.sec.size ≤ 32) : Calls Tryd.prog 21 #[.pointer (some ⟨rb, 0, none⟩), .string s, .string t, .string n, .string p, .int .i64 now] u fun e u' => e = .returned (.int .i64 (ckI (gdB (tkN c s t) (inR P s t) now) (wnB (tkN c s t) s t n) p)) ∧ Pl ub wb mb rb x g P L u' :=
  (rvcheck_ok x rb _ P s t n p now u h.z (b.hx.on (b.low h)) hl hs ht hn (fun k hk => hsec k (by rw [← b.ht]; exact hk))).mono fun e u' hh => ⟨by rw [hh.1, b.ht], h.on hh.2⟩
theorem pl_rrev (b : Pb w ub wb v mb rb c x) (h : Pl ub wb mb rb x g P L u) (hl : P.length ≤ 1000) (s t : ByteArray) (hL : ∀ y ∈ L, y.2.1 ≠ 9 ∧ y.1 ≠ rb) : Calls Tryd.prog 15 #[.pointer (some ⟨rb, 0, none⟩), .string s, .string t] u fun e u' => e = .returned (.bool (rvB (tkN c s t) (inR P s t))) ∧ Pl ub wb mb rb x g (rvP (tkN c s t) P s t) L u' :=
  (rvrev_ok x rb _ P s t u h.z (b.hx.on (b.low h)) hl).mono fun e u' hh => by
    obtain ⟨h1, h2, k⟩ := hh
    rw [b.ht] at h1 h2
    have hmb := b.hv.va.mp.lt
    have hr := b.hr
    have hw := b.hw
    refine ⟨h1, ⟨k.os.trans h.k.os, k.tape.trans h.k.tape, k.output.trans h.k.output, Nat.le_trans h.k.size k.size, fun i hi hn => (k.low i (by omega) (by omega)).trans (h.k.block i hi hn)⟩, ?_, h2, fun y hy => k.ty _ _ _ (hL y hy).1 (hL y hy).2 (h.kb y hy)⟩
    obtain ⟨n, D, ⟨es, clock, hb, r⟩, h4⟩ := h.m.ex
    exact ⟨n, D, ⟨es, clock, (k.low mb (by omega) (by omega)).trans hb, r⟩, h4⟩
end

set_option maxRecDepth 100000 in
set_option maxHeartbeats 16000000 in
theorem walk_VaultPlays (x : Cv) (B : Option Addr) (lo : List Vo) (d : Nat) (w : World) (h : InCf w x) (ho : InOps w B lo d) (hG : Gl w) :
    Calls Tryd.prog 3 #[.agg (ccs x), .slice B lo.length d] w fun e w' => e = .returned (.bool true) ∧ Below w.heap.size w w' := by
  have HGR := Lib.hid (fun u (hu : Below w.heap.size w u) => great_ok x u (h.on hu))
  have HN0 := Lib.hid (fun (hc : cfgB x.cg = false) => vnew_no h.rc hc)
  have HN1 := Lib.hid (fun (hc : cfgB x.cg = true) => vnew_yes h.rc hc)
  have HRT := Lib.hid h.rc.r
  have HMX := Lib.hid h.rc.f.max
  have HCP := Lib.hid h.rc.f.cap
  have HSE := Lib.hid (fun (hc : cfgB x.cg = true) (a b : ByteArray) k (hk : tkN x.cg.tens a b = some k) => (tkN_till hc hk).2.2.2)
  have HTN := Lib.hid (show ∀ a b, tkT x.ts a b = tkN x.cg.tens a b from fun a b => tkT_is _ _ _)
  have HGO := Lib.hid (fun u (hu : Below w.heap.size w u) => vgreat_ok B lo d u (ho.on hu))
  have HOP := Lib.hid ho
  have HRN := Lib.hid (fun u (hu : Below w.heap.size w u) => rvnew_ok x w h.rc u hu)
  obtain ⟨C, hC⟩ : ∃ C, cfgB x.cg = C := ⟨_, rfl⟩
  simp only [hC] at HN0 HN1 HSE HRN
  obtain ⟨tn, htn⟩ : ∃ tn, x.cg.tens = tn := ⟨_, rfl⟩
  rw [htn] at HN1 HSE HTN
  obtain ⟨a0, a1, a2, a3, ts, A, c⟩ := x
  obtain ⟨n, hn⟩ : ∃ n, ts.length = n := ⟨_, rfl⟩
  have HN := Lib.hid hn
  dsimp only at HRT HMX HCP HTN
  simp only [ccs, hn] at HGR HN0 HN1 HRN ⊢
  have HX := Lib.hid (show Bx w w.heap.size 24 #[.int .i64 a0, .int .i64 a1, .int .i64 a2, .int .i64 a3, .slice A n c] (w.alloc (.cells #[.int .i64 a0, .int .i64 a1, .int .i64 a2, .int .i64 a3, .slice A n c] 24)) from Bx.new w _ _)
  have HG := Lib.hid hG
  clear h hn hC htn hG
  obtain ⟨nl, hnl⟩ : ∃ k, lo.length = k := ⟨_, rfl⟩
  have HNL := Lib.hid hnl
  have hnl47 : nl ≤ 140737488355328 := by rw [← hnl]; exact ho.n
  rw [hnl] at HGO ⊢
  clear hnl ho
  go_enter Tryd.func3, Tryd.ntmps3
  go_upto_region 2 with (go_at_call 9; refine (vhead_ok _ (HG.out.below HX.out.l HG.out.size)).mono ?_; rintro e u1 ⟨rfl, hb⟩; have HX1 := Lib.hid (HX.out.on hb); clear hb)
  obtain ⟨g0, hg0⟩ : ∃ g, w.heap.size = g := ⟨_, rfl⟩
  have HG0 := Lib.hid hg0
  rw [hg0] at HX1 ⊢
  clear hg0
  have e0 : u1.cell? ⟨g0, 0, none⟩ = some (.int .i64 a0) := HX1.out.b.cell 0
  have e1 : u1.cell? ⟨g0, 1, none⟩ = some (.int .i64 a1) := HX1.out.b.cell 1
  have e2 : u1.cell? ⟨g0, 2, none⟩ = some (.int .i64 a2) := HX1.out.b.cell 2
  have e3 : u1.cell? ⟨g0, 3, none⟩ = some (.int .i64 a3) := HX1.out.b.cell 3
  have e4 : u1.cell? ⟨g0, 4, none⟩ = some (.slice A n c) := HX1.out.b.cell 4
  go_upto_region 4 with (first
    | (go_at_call 10; (with_reducible refine (HGR.out _ HX1.out.l).mono ?_); rintro e u2 ⟨g, rfl, _, hb⟩; have HX2 := Lib.hid (HX1.out.on hb); clear hb; cases g)
    | (go_at_call 11; (with_reducible refine (HGO.out _ HX2.out.l).mono ?_); rintro e u3 ⟨g2, rfl, hob, hb⟩; have HX3 := Lib.hid (HX2.out.on hb); have HOB := Lib.hid hob; clear hb hob; cases g2))
  any_goals (go_ret; first | exact ⟨rfl, HX2.out.l⟩ | exact ⟨rfl, HX3.out.l⟩)
  have HOB2 := Lib.hid (show OpsB lo from HOB.out (by first | rfl | trivial))
  clear HOB e0 e1 e2 e3 e4
  have e0 : u3.cell? ⟨g0, 0, none⟩ = some (.int .i64 a0) := HX3.out.b.cell 0
  have e1 : u3.cell? ⟨g0, 1, none⟩ = some (.int .i64 a1) := HX3.out.b.cell 1
  have e2 : u3.cell? ⟨g0, 2, none⟩ = some (.int .i64 a2) := HX3.out.b.cell 2
  have e3 : u3.cell? ⟨g0, 3, none⟩ = some (.int .i64 a3) := HX3.out.b.cell 3
  have e4 : u3.cell? ⟨g0, 4, none⟩ = some (.slice A n c) := HX3.out.b.cell 4
  cases C with
  | false =>
    go_wp2_with (first
      | (go_at_call 12; (with_reducible refine (HN0.out (by first | rfl | trivial) _ HX3.out.l).mono ?_); rintro e u4 ⟨rfl, hb⟩; have HX4 := Lib.hid (HX3.out.on hb); clear hb e0 e1 e2 e3 e4; have e0 : u4.cell? ⟨g0, 0, none⟩ = some (.int .i64 a0) := HX4.out.b.cell 0; have e1 : u4.cell? ⟨g0, 1, none⟩ = some (.int .i64 a1) := HX4.out.b.cell 1; have e2 : u4.cell? ⟨g0, 2, none⟩ = some (.int .i64 a2) := HX4.out.b.cell 2; have e3 : u4.cell? ⟨g0, 3, none⟩ = some (.int .i64 a3) := HX4.out.b.cell 3; have e4 : u4.cell? ⟨g0, 4, none⟩ = some (.slice A n c) := HX4.out.b.cell 4)
      | (go_at_call 13; (with_reducible refine (HRN.out _ HX4.out.l).mono ?_); rintro e u5 ⟨h0, _, hb⟩; obtain rfl := h0 (by first | rfl | trivial); have HX5 := Lib.hid (HX4.out.on hb); clear hb h0))
    go_ret
    exact ⟨rfl, HX5.out.l⟩
  | true =>
    go_upto_region 5 with (go_at_call 12; (with_reducible refine (HN1.out (by first | rfl | trivial) _ HX3.out.l [(g0, 24, #[.int .i64 a0, .int .i64 a1, .int .i64 a2, .int .i64 a3, .slice A n c])] (fun b hb => by obtain rfl := List.mem_singleton.1 hb; exact HX3.out.b)).mono ?_); rintro e u4 ⟨v, mb, rfl, hv, _, _, _⟩; have HV4 := Lib.hid hv; clear hv)
    clear e0 e1 e2 e3 e4
    have e0 : u4.cell? ⟨g0, 0, none⟩ = some (.int .i64 a0) := HV4.out.head.cell 0
    have e1 : u4.cell? ⟨g0, 1, none⟩ = some (.int .i64 a1) := HV4.out.head.cell 1
    have e2 : u4.cell? ⟨g0, 2, none⟩ = some (.int .i64 a2) := HV4.out.head.cell 2
    have e3 : u4.cell? ⟨g0, 3, none⟩ = some (.int .i64 a3) := HV4.out.head.cell 3
    have e4 : u4.cell? ⟨g0, 4, none⟩ = some (.slice A n c) := HV4.out.head.cell 4
    go_upto_region 6 with (go_at_call 13; (with_reducible refine (HRN.out _ HV4.out.l).mono ?_); rintro e u5 ⟨_, h1, hb⟩; obtain ⟨rb, rfl, hrb, hz⟩ := h1 (by first | rfl | trivial); have HB5 := Lib.hid (And.intro hrb (And.intro hz hb)); clear hb h1 hrb hz)
    clear e0 e1 e2 e3 e4
    obtain ⟨ub, hub⟩ : ∃ ub, u4 = ub := ⟨_, rfl⟩
    obtain ⟨wb, hwb⟩ : ∃ wb, u5 = wb := ⟨_, rfl⟩
    rw [hub] at HV4 HB5
    rw [hwb] at HB5 ⊢
    clear hub hwb
    have HPB := Lib.hid (show Pb w ub wb v mb rb tn ⟨a0, a1, a2, a3, A, n, c, ts⟩ from ⟨HV4.out.less (fun b hb => by cases hb), HB5.out.1, HB5.out.2.2.size, ⟨HRT.out, HN.out, (by have h1 := HMX.out; have h2 := HCP.out; rw [HN.out] at h2; show n ≤ _; omega)⟩, HTN.out⟩)
    have HP0 := Lib.hid (show Pl ub wb mb rb ⟨a0, a1, a2, a3, A, n, c, ts⟩ [] [] [] wb from ⟨(Ke.of HB5.out.2.2).nil, HV4.out.va.mp.ke (Ke.of HB5.out.2.2) (by simp), HB5.out.2.1, fun b hb => by cases hb⟩)
    have HSE2 := Lib.hid (HSE.out (by first | rfl | trivial))
    obtain ⟨xr, hxr⟩ : ∃ xr : Rcf, (⟨a0, a1, a2, a3, A, n, c, ts⟩ : Rcf) = xr := ⟨_, rfl⟩
    rw [hxr] at HPB HP0
    clear hxr HV4 HB5 HN0 HN1 HRN HSE HX1 HX2 HX3 HRT
    go_wp2_with fail
    go_loopw [8] (fun v8 wr => ∃ (i : Nat) (g P : Rev), i ≤ nl ∧ v8 = .int .i64 (i : Int) ∧ Hid (g.length ≤ i ∧ P.length ≤ i) ∧ Hid (∀ a b, inR g a b = inR P a b) ∧ Hid (Pl ub wb mb rb xr g P [] wr)) (fun v8 _ => nl - (intOf v8).toNat)
    case atStart => exact ⟨0, [], [], by omega, rfl, Lib.hid ⟨Nat.le_refl _, Nat.le_refl _⟩, Lib.hid (fun _ _ => rfl), HP0⟩
    case round =>
      obtain ⟨i, g, P, hi, rfl, HGL, HQ, HV⟩ := hrel
      by_cases hi1 : i < nl
      · have hi2 : (i : Int) < (nl : Int) := by omega
        obtain ⟨b, o, x, rfl, hx, hsm, hc⟩ := HOP.out.at6 i (by rw [HNL.out]; exact hi1)
        obtain ⟨c0, c1, c2, c3, c4, c5⟩ := hc wr (HPB.out.low HV.out)
        have HFE := Lib.hid (HOB2.out.x x (List.mem_of_getElem? hx))
        obtain ⟨xw, xt, xk, xn, xp, xo⟩ := x
        dsimp only at c0 c1 c2 c3 c4 c5
        have HZS := Lib.hid (show xt.size ≤ 2000 ∧ xk.size ≤ 2000 ∧ xn.size ≤ 2000 ∧ xp.size ≤ 2000 by have h1 := HFE.out; unfold Vo.few at h1; dsimp only at h1; omega)
        have HI := Lib.hid (show g.length ≤ 200 ∧ P.length ≤ 200 by have h1 := HGL.out; have h2 := HOB2.out.n; rw [HNL.out] at h2; omega)
        clear hc hx hsm HFE
        obtain ⟨wo, hwo⟩ : ∃ wo, wr = wo := ⟨_, rfl⟩
        subst wr
        go_upto_region 12 with fail
        clear c0 c1 c2 c3 c4 c5
        have HVN := Lib.hid (HV.out.new 34 #[.int .i64 xw, .string xt, .string xk, .string xn, .string xp, .int .i64 xo])
        obtain ⟨wn, hwn⟩ : ∃ wn, wo.alloc (.cells #[.int .i64 xw, .string xt, .string xk, .string xn, .string xp, .int .i64 xo] 34) = wn := ⟨_, rfl⟩
        have HGN := Lib.hid (show ∀ y ∈ [(wo.heap.size, 34, (#[.int .i64 xw, .string xt, .string xk, .string xn, .string xp, .int .i64 xo] : Array Value))], y.2.1 ≠ 9 ∧ y.1 ≠ rb from fun y hy => by
          obtain rfl := List.mem_singleton.1 hy
          have h1 := HV.out.z.lt
          have h2 := HV.out.z.bs
          exact ⟨by show (34 : TypeId) ≠ 9; decide, by show wo.heap.size ≠ rb; omega⟩)
        obtain ⟨gb, hgb⟩ : ∃ gb, wo.heap.size = gb := ⟨_, rfl⟩
        rw [hwn, hgb] at HVN
        rw [hgb] at HGN
        rw [hwn] ; try rw [hgb]
        clear hwn hgb HV
        have d0 : wn.cell? ⟨gb, 0, none⟩ = some (.int .i64 xw) := HVN.out.head.cell 0
        have d1 : wn.cell? ⟨gb, 1, none⟩ = some (.string xt) := HVN.out.head.cell 1
        have d2 : wn.cell? ⟨gb, 2, none⟩ = some (.string xk) := HVN.out.head.cell 2
        by_cases hw0 : xw = 0
        · subst hw0
          have HRA := Lib.hid (show ∀ u, Pl ub wb mb rb xr g P [(gb, 34, #[.int .i64 0, .string xt, .string xk, .string xn, .string xp, .int .i64 xo])] u → Calls Tryd.prog 14 #[.pointer (some ⟨v, 0, none⟩), .string xt, .string xk] u fun e u' => e = .returned (.bool (rvB (tkN tn xt xk) (inR g xt xk))) ∧ Pl ub wb mb rb xr (rvG (tkN tn xt xk) g xt xk) P [(gb, 34, #[.int .i64 0, .string xt, .string xk, .string xn, .string xp, .int .i64 xo])] u' from fun u hu => pl_rev HPB.out hu (by have := HI.out.1; omega) xt xk)
          have HRB := Lib.hid (show ∀ u, Pl ub wb mb rb xr (rvG (tkN tn xt xk) g xt xk) P [(gb, 34, #[.int .i64 0, .string xt, .string xk, .string xn, .string xp, .int .i64 xo])] u → Calls Tryd.prog 15 #[.pointer (some ⟨rb, 0, none⟩), .string xt, .string xk] u fun e u' => e = .returned (.bool (rvB (tkN tn xt xk) (inR g xt xk))) ∧ Pl ub wb mb rb xr (rvG (tkN tn xt xk) g xt xk) (rvP (tkN tn xt xk) P xt xk) [(gb, 34, #[.int .i64 0, .string xt, .string xk, .string xn, .string xp, .int .i64 xo])] u' from fun u hu => by rw [HQ.out]; exact pl_rrev HPB.out hu (by have := HI.out.2; omega) xt xk HGN.out)
          have HQ8 := Lib.hid (rvP_in (o := tkN tn xt xk) HQ.out xt xk)
          have HL8 := Lib.hid (show (rvG (tkN tn xt xk) g xt xk).length ≤ i + 1 ∧ (rvP (tkN tn xt xk) P xt xk).length ≤ i + 1 ∧ (rvP (tkN tn xt xk) P xt xk).length ≤ 1000 by have h1 := HGL.out; have h3 := HI.out; have h2 := @rv_lenS (tkN tn xt xk) g xt xk; have h4 := @rvP_len (tkN tn xt xk) P xt xk; omega)
          obtain ⟨rv, hrv⟩ : ∃ rv, rvB (tkN tn xt xk) (inR g xt xk) = rv := ⟨_, rfl⟩
          rw [hrv] at HRA HRB
          obtain ⟨h1g, e1g⟩ : ∃ z, rvG (tkN tn xt xk) g xt xk = z := ⟨_, rfl⟩
          obtain ⟨h2g, e2g⟩ : ∃ z, rvP (tkN tn xt xk) P xt xk = z := ⟨_, rfl⟩
          simp only [e1g] at HRA
          simp only [e1g, e2g] at HRB
          rw [e1g, e2g] at HL8
          simp only [e1g, e2g] at HQ8
          clear hrv e1g e2g
          go_upto_region 17 with (first
            | (go_at_call 14; (with_reducible refine (HRA.out _ HVN.out).mono ?_); rintro e u7 ⟨rfl, hv⟩; have HG7 := Lib.hid hv; clear hv d0 d1 d2; have d1 : u7.cell? ⟨gb, 1, none⟩ = some (.string xt) := HG7.out.head.cell 1; have d2 : u7.cell? ⟨gb, 2, none⟩ = some (.string xk) := HG7.out.head.cell 2)
            | (go_at_call 15; (with_reducible refine (HRB.out _ HG7.out).mono ?_); rintro e u8 ⟨rfl, hv⟩; have HG8 := Lib.hid hv; clear hv))
          clear d1 d2 HG7 HVN HQ HGL HI HRA HRB
          have HCA := Lib.hid (show ∃ (G : Bool) (WS : ByteArray) (E : Int), (∀ u, Pl ub wb mb rb xr h1g h2g [(gb, 34, #[.int .i64 0, .string xt, .string xk, .string xn, .string xp, .int .i64 xo])] u → Calls Tryd.prog 16 #[.pointer (some ⟨v, 0, none⟩), .string xt, .string xk, .int .i64 xo] u fun e u' => e = .returned (.bool G) ∧ Pl ub wb mb rb xr h1g h2g [(gb, 34, #[.int .i64 0, .string xt, .string xk, .string xn, .string xp, .int .i64 xo])] u') ∧ (∀ u, Pl ub wb mb rb xr h1g h2g [(gb, 34, #[.int .i64 0, .string xt, .string xk, .string xn, .string xp, .int .i64 xo])] u → Calls Tryd.prog 17 #[.pointer (some ⟨rb, 0, none⟩), .string xt, .string xk, .int .i64 xo] u fun e u' => e = .returned (.bool G) ∧ Pl ub wb mb rb xr h1g h2g [(gb, 34, #[.int .i64 0, .string xt, .string xk, .string xn, .string xp, .int .i64 xo])] u') ∧ (∀ u, Pl ub wb mb rb xr h1g h2g [(gb, 34, #[.int .i64 0, .string xt, .string xk, .string xn, .string xp, .int .i64 xo])] u → Calls Tryd.prog 18 #[.pointer (some ⟨v, 0, none⟩), .string xt, .string xk, .string xn] u fun e u' => e = .returned (.string WS) ∧ Pl ub wb mb rb xr h1g h2g [(gb, 34, #[.int .i64 0, .string xt, .string xk, .string xn, .string xp, .int .i64 xo])] u') ∧ (∀ u, Pl ub wb mb rb xr h1g h2g [(gb, 34, #[.int .i64 0, .string xt, .string xk, .string xn, .string xp, .int .i64 xo])] u → Calls Tryd.prog 19 #[.pointer (some ⟨rb, 0, none⟩), .string xt, .string xk, .string xn] u fun e u' => e = .returned (.string WS) ∧ Pl ub wb mb rb xr h1g h2g [(gb, 34, #[.int .i64 0, .string xt, .string xk, .string xn, .string xp, .int .i64 xo])] u') ∧ (∀ u, Pl ub wb mb rb xr h1g h2g [(gb, 34, #[.int .i64 0, .string xt, .string xk, .string xn, .string xp, .int .i64 xo])] u → Calls Tryd.prog 20 #[.pointer (some ⟨v, 0, none⟩), .string xt, .string xk, .string xn, .string xp, .int .i64 xo] u fun e u' => e = .returned (.int .i64 E) ∧ Pl ub wb mb rb xr h1g h2g [(gb, 34, #[.int .i64 0, .string xt, .string xk, .string xn, .string xp, .int .i64 xo])] u') ∧ (∀ u, Pl ub wb mb rb xr h1g h2g [(gb, 34, #[.int .i64 0, .string xt, .string xk, .string xn, .string xp, .int .i64 xo])] u → Calls Tryd.prog 21 #[.pointer (some ⟨rb, 0, none⟩), .string xt, .string xk, .string xn, .string xp, .int .i64 xo] u fun e u' => e = .returned (.int .i64 E) ∧ Pl ub wb mb rb xr h1g h2g [(gb, 34, #[.int .i64 0, .string xt, .string xk, .string xn, .string xp, .int .i64 xo])] u') from ⟨_, _, _, fun u hu => pl_good HPB.out hu xt xk xo, fun u hu => by rw [HQ8.out]; exact pl_rgood HPB.out hu HL8.out.2.2 xt xk xo, fun u hu => pl_want HPB.out hu HG.out xt xk xn (by have := HZS.out; omega), fun u hu => pl_rwant HPB.out hu xt xk xn (by have := HZS.out; omega) (by have := HZS.out; omega) (by have := HZS.out; omega) (fun k hk => HSE2.out xt xk k hk), fun u hu => pl_check HPB.out hu HG.out xt xk xn xp xo (by have := HZS.out; omega) (by have := HZS.out; omega), fun u hu => by rw [HQ8.out]; exact pl_rcheck HPB.out hu HL8.out.2.2 xt xk xn xp xo (by have := HZS.out; omega) (by have := HZS.out; omega) (by have := HZS.out; omega) (fun k hk => HSE2.out xt xk k hk)⟩)
          obtain ⟨G, WS, E, g1, g2, g3, g4, g5, g6⟩ := HCA.out
          have H1 := Lib.hid g1
          have H2 := Lib.hid g2
          have H3 := Lib.hid g3
          have H4 := Lib.hid g4
          have H5 := Lib.hid g5
          have H6 := Lib.hid g6
          clear g1 g2 g3 g4 g5 g6 HCA
          have hws : (WS.toList == WS.toList) = true := beq_self_eq_true _
          try simp only [List.cons_append, List.nil_append]
          refine wp_region_held_drew (S := fun wz => Bk wz gb 34 #[.int .i64 0, .string xt, .string xk, .string xn, .string xp, .int .i64 xo]) (by kernel_rfl) (HG8.out.head.drew) (fun hHeld => ?_)
          refine take_at (some 66) (i := 0) (v := ?_) rfl rfl (by kernel_rfl) (by kernel_rfl) (by kernel_rfl) (fun _ _ _ h => h) (Or.inl ⟨by kernel_rfl, ?_⟩) hHeld ?_
          rotate_left
          · intro wz hSw; have k1 : wz.cell? ⟨gb, 1, none⟩ = some (.string xt) := hSw.cell 1; have k2 : wz.cell? ⟨gb, 2, none⟩ = some (.string xk) := hSw.cell 2; have k3 : wz.cell? ⟨gb, 3, none⟩ = some (.string xn) := hSw.cell 3; have k4 : wz.cell? ⟨gb, 4, none⟩ = some (.string xp) := hSw.cell 4; have k5 : wz.cell? ⟨gb, 5, none⟩ = some (.int .i64 xo) := hSw.cell 5; go_simp; try (with_reducible rfl)
          try simp only [Act.put, List.setIfInBounds_toArray, List.set_cons_zero, List.set_cons_succ, List.getElem_toArray, List.getElem_cons_succ, List.getElem_cons_zero]
          refine take_at (some 67) (i := 1) (v := ?_) rfl rfl (by kernel_rfl) (by kernel_rfl) (by kernel_rfl) (fun _ _ _ h => h) (Or.inl ⟨by kernel_rfl, ?_⟩) hHeld ?_
          rotate_left
          · intro wz hSw; have k1 : wz.cell? ⟨gb, 1, none⟩ = some (.string xt) := hSw.cell 1; have k2 : wz.cell? ⟨gb, 2, none⟩ = some (.string xk) := hSw.cell 2; have k3 : wz.cell? ⟨gb, 3, none⟩ = some (.string xn) := hSw.cell 3; have k4 : wz.cell? ⟨gb, 4, none⟩ = some (.string xp) := hSw.cell 4; have k5 : wz.cell? ⟨gb, 5, none⟩ = some (.int .i64 xo) := hSw.cell 5; go_simp; try (with_reducible rfl)
          try simp only [Act.put, List.setIfInBounds_toArray, List.set_cons_zero, List.set_cons_succ, List.getElem_toArray, List.getElem_cons_succ, List.getElem_cons_zero]
          refine take_at (some 68) (i := 2) (v := ?_) rfl rfl (by kernel_rfl) (by kernel_rfl) (by kernel_rfl) (fun _ _ _ h => h) (Or.inl ⟨by kernel_rfl, ?_⟩) hHeld ?_
          rotate_left
          · intro wz hSw; have k1 : wz.cell? ⟨gb, 1, none⟩ = some (.string xt) := hSw.cell 1; have k2 : wz.cell? ⟨gb, 2, none⟩ = some (.string xk) := hSw.cell 2; have k3 : wz.cell? ⟨gb, 3, none⟩ = some (.string xn) := hSw.cell 3; have k4 : wz.cell? ⟨gb, 4, none⟩ = some (.string xp) := hSw.cell 4; have k5 : wz.cell? ⟨gb, 5, none⟩ = some (.int .i64 xo) := hSw.cell 5; go_simp; try (with_reducible rfl)
          try simp only [Act.put, List.setIfInBounds_toArray, List.set_cons_zero, List.set_cons_succ, List.getElem_toArray, List.getElem_cons_succ, List.getElem_cons_zero]
          refine take_at (some 69) (i := 3) (v := ?_) rfl rfl (by kernel_rfl) (by kernel_rfl) (by kernel_rfl) (fun _ _ _ h => h) (Or.inl ⟨by kernel_rfl, ?_⟩) hHeld ?_
          rotate_left
          · intro wz hSw; have k1 : wz.cell? ⟨gb, 1, none⟩ = some (.string xt) := hSw.cell 1; have k2 : wz.cell? ⟨gb, 2, none⟩ = some (.string xk) := hSw.cell 2; have k3 : wz.cell? ⟨gb, 3, none⟩ = some (.string xn) := hSw.cell 3; have k4 : wz.cell? ⟨gb, 4, none⟩ = some (.string xp) := hSw.cell 4; have k5 : wz.cell? ⟨gb, 5, none⟩ = some (.int .i64 xo) := hSw.cell 5; go_simp; try (with_reducible rfl)
          try simp only [Act.put, List.setIfInBounds_toArray, List.set_cons_zero, List.set_cons_succ, List.getElem_toArray, List.getElem_cons_succ, List.getElem_cons_zero]
          refine take_at (some 70) (i := 4) (v := ?_) rfl rfl (by kernel_rfl) (by kernel_rfl) (by kernel_rfl) (fun _ _ _ h => h) (Or.inl ⟨by kernel_rfl, ?_⟩) hHeld ?_
          rotate_left
          · intro wz hSw; have k1 : wz.cell? ⟨gb, 1, none⟩ = some (.string xt) := hSw.cell 1; have k2 : wz.cell? ⟨gb, 2, none⟩ = some (.string xk) := hSw.cell 2; have k3 : wz.cell? ⟨gb, 3, none⟩ = some (.string xn) := hSw.cell 3; have k4 : wz.cell? ⟨gb, 4, none⟩ = some (.string xp) := hSw.cell 4; have k5 : wz.cell? ⟨gb, 5, none⟩ = some (.int .i64 xo) := hSw.cell 5; go_simp; try (with_reducible rfl)
          try simp only [Act.put, List.setIfInBounds_toArray, List.set_cons_zero, List.set_cons_succ, List.getElem_toArray, List.getElem_cons_succ, List.getElem_cons_zero]
          refine take_at (some 71) (i := 5) (v := ?_) rfl rfl (by kernel_rfl) (by kernel_rfl) (by kernel_rfl) (fun _ _ _ h => h) (Or.inl ⟨by kernel_rfl, ?_⟩) hHeld ?_
          rotate_left
          · intro wz hSw; have k1 : wz.cell? ⟨gb, 1, none⟩ = some (.string xt) := hSw.cell 1; have k2 : wz.cell? ⟨gb, 2, none⟩ = some (.string xk) := hSw.cell 2; have k3 : wz.cell? ⟨gb, 3, none⟩ = some (.string xn) := hSw.cell 3; have k4 : wz.cell? ⟨gb, 4, none⟩ = some (.string xp) := hSw.cell 4; have k5 : wz.cell? ⟨gb, 5, none⟩ = some (.int .i64 xo) := hSw.cell 5; go_simp; try (with_reducible rfl)
          try simp only [Act.put, List.setIfInBounds_toArray, List.set_cons_zero, List.set_cons_succ, List.getElem_toArray, List.getElem_cons_succ, List.getElem_cons_zero]
          refine take_at (some 72) (i := 6) (v := ?_) rfl rfl (by kernel_rfl) (by kernel_rfl) (by kernel_rfl) (fun _ _ _ h => h) (Or.inl ⟨by kernel_rfl, ?_⟩) hHeld ?_
          rotate_left
          · intro wz hSw; have k1 : wz.cell? ⟨gb, 1, none⟩ = some (.string xt) := hSw.cell 1; have k2 : wz.cell? ⟨gb, 2, none⟩ = some (.string xk) := hSw.cell 2; have k3 : wz.cell? ⟨gb, 3, none⟩ = some (.string xn) := hSw.cell 3; have k4 : wz.cell? ⟨gb, 4, none⟩ = some (.string xp) := hSw.cell 4; have k5 : wz.cell? ⟨gb, 5, none⟩ = some (.int .i64 xo) := hSw.cell 5; go_simp; try (with_reducible rfl)
          try simp only [Act.put, List.setIfInBounds_toArray, List.set_cons_zero, List.set_cons_succ, List.getElem_toArray, List.getElem_cons_succ, List.getElem_cons_zero]
          refine take_at (some 74) (i := 8) (v := ?_) rfl rfl (by kernel_rfl) (by kernel_rfl) (by kernel_rfl) (fun _ _ _ h => h) (Or.inl ⟨by kernel_rfl, ?_⟩) hHeld ?_
          rotate_left
          · intro wz hSw; have k1 : wz.cell? ⟨gb, 1, none⟩ = some (.string xt) := hSw.cell 1; have k2 : wz.cell? ⟨gb, 2, none⟩ = some (.string xk) := hSw.cell 2; have k3 : wz.cell? ⟨gb, 3, none⟩ = some (.string xn) := hSw.cell 3; have k4 : wz.cell? ⟨gb, 4, none⟩ = some (.string xp) := hSw.cell 4; have k5 : wz.cell? ⟨gb, 5, none⟩ = some (.int .i64 xo) := hSw.cell 5; go_simp; try (with_reducible rfl)
          try simp only [Act.put, List.setIfInBounds_toArray, List.set_cons_zero, List.set_cons_succ, List.getElem_toArray, List.getElem_cons_succ, List.getElem_cons_zero]
          refine take_at (some 75) (i := 9) (v := ?_) rfl rfl (by kernel_rfl) (by kernel_rfl) (by kernel_rfl) (fun _ _ _ h => h) (Or.inl ⟨by kernel_rfl, ?_⟩) hHeld ?_
          rotate_left
          · intro wz hSw; have k1 : wz.cell? ⟨gb, 1, none⟩ = some (.string xt) := hSw.cell 1; have k2 : wz.cell? ⟨gb, 2, none⟩ = some (.string xk) := hSw.cell 2; have k3 : wz.cell? ⟨gb, 3, none⟩ = some (.string xn) := hSw.cell 3; have k4 : wz.cell? ⟨gb, 4, none⟩ = some (.string xp) := hSw.cell 4; have k5 : wz.cell? ⟨gb, 5, none⟩ = some (.int .i64 xo) := hSw.cell 5; go_simp; try (with_reducible rfl)
          try simp only [Act.put, List.setIfInBounds_toArray, List.set_cons_zero, List.set_cons_succ, List.getElem_toArray, List.getElem_cons_succ, List.getElem_cons_zero]
          refine take_at (some 76) (i := 10) (v := ?_) rfl rfl (by kernel_rfl) (by kernel_rfl) (by kernel_rfl) (fun _ _ _ h => h) (Or.inl ⟨by kernel_rfl, ?_⟩) hHeld ?_
          rotate_left
          · intro wz hSw; have k1 : wz.cell? ⟨gb, 1, none⟩ = some (.string xt) := hSw.cell 1; have k2 : wz.cell? ⟨gb, 2, none⟩ = some (.string xk) := hSw.cell 2; have k3 : wz.cell? ⟨gb, 3, none⟩ = some (.string xn) := hSw.cell 3; have k4 : wz.cell? ⟨gb, 4, none⟩ = some (.string xp) := hSw.cell 4; have k5 : wz.cell? ⟨gb, 5, none⟩ = some (.int .i64 xo) := hSw.cell 5; go_simp; try (with_reducible rfl)
          try simp only [Act.put, List.setIfInBounds_toArray, List.set_cons_zero, List.set_cons_succ, List.getElem_toArray, List.getElem_cons_succ, List.getElem_cons_zero]
          refine take_at (some 77) (i := 11) (v := ?_) rfl rfl (by kernel_rfl) (by kernel_rfl) (by kernel_rfl) (fun _ _ _ h => h) (Or.inl ⟨by kernel_rfl, ?_⟩) hHeld ?_
          rotate_left
          · intro wz hSw; have k1 : wz.cell? ⟨gb, 1, none⟩ = some (.string xt) := hSw.cell 1; have k2 : wz.cell? ⟨gb, 2, none⟩ = some (.string xk) := hSw.cell 2; have k3 : wz.cell? ⟨gb, 3, none⟩ = some (.string xn) := hSw.cell 3; have k4 : wz.cell? ⟨gb, 4, none⟩ = some (.string xp) := hSw.cell 4; have k5 : wz.cell? ⟨gb, 5, none⟩ = some (.int .i64 xo) := hSw.cell 5; go_simp; try (with_reducible rfl)
          try simp only [Act.put, List.setIfInBounds_toArray, List.set_cons_zero, List.set_cons_succ, List.getElem_toArray, List.getElem_cons_succ, List.getElem_cons_zero]
          refine take_at (some 78) (i := 12) (v := ?_) rfl rfl (by kernel_rfl) (by kernel_rfl) (by kernel_rfl) (fun _ _ _ h => h) (Or.inl ⟨by kernel_rfl, ?_⟩) hHeld ?_
          rotate_left
          · intro wz hSw; have k1 : wz.cell? ⟨gb, 1, none⟩ = some (.string xt) := hSw.cell 1; have k2 : wz.cell? ⟨gb, 2, none⟩ = some (.string xk) := hSw.cell 2; have k3 : wz.cell? ⟨gb, 3, none⟩ = some (.string xn) := hSw.cell 3; have k4 : wz.cell? ⟨gb, 4, none⟩ = some (.string xp) := hSw.cell 4; have k5 : wz.cell? ⟨gb, 5, none⟩ = some (.int .i64 xo) := hSw.cell 5; go_simp; try (with_reducible rfl)
          try simp only [Act.put, List.setIfInBounds_toArray, List.set_cons_zero, List.set_cons_succ, List.getElem_toArray, List.getElem_cons_succ, List.getElem_cons_zero]
          refine take_at (some 79) (i := 13) (v := ?_) rfl rfl (by kernel_rfl) (by kernel_rfl) (by kernel_rfl) (fun _ _ _ h => h) (Or.inl ⟨by kernel_rfl, ?_⟩) hHeld ?_
          rotate_left
          · intro wz hSw; have k1 : wz.cell? ⟨gb, 1, none⟩ = some (.string xt) := hSw.cell 1; have k2 : wz.cell? ⟨gb, 2, none⟩ = some (.string xk) := hSw.cell 2; have k3 : wz.cell? ⟨gb, 3, none⟩ = some (.string xn) := hSw.cell 3; have k4 : wz.cell? ⟨gb, 4, none⟩ = some (.string xp) := hSw.cell 4; have k5 : wz.cell? ⟨gb, 5, none⟩ = some (.int .i64 xo) := hSw.cell 5; go_simp; try (with_reducible rfl)
          try simp only [Act.put, List.setIfInBounds_toArray, List.set_cons_zero, List.set_cons_succ, List.getElem_toArray, List.getElem_cons_succ, List.getElem_cons_zero]
          refine take_at (some 80) (i := 14) (v := ?_) rfl rfl (by kernel_rfl) (by kernel_rfl) (by kernel_rfl) (fun _ _ _ h => h) (Or.inl ⟨by kernel_rfl, ?_⟩) hHeld ?_
          rotate_left
          · intro wz hSw; have k1 : wz.cell? ⟨gb, 1, none⟩ = some (.string xt) := hSw.cell 1; have k2 : wz.cell? ⟨gb, 2, none⟩ = some (.string xk) := hSw.cell 2; have k3 : wz.cell? ⟨gb, 3, none⟩ = some (.string xn) := hSw.cell 3; have k4 : wz.cell? ⟨gb, 4, none⟩ = some (.string xp) := hSw.cell 4; have k5 : wz.cell? ⟨gb, 5, none⟩ = some (.int .i64 xo) := hSw.cell 5; go_simp; try (with_reducible rfl)
          try simp only [Act.put, List.setIfInBounds_toArray, List.set_cons_zero, List.set_cons_succ, List.getElem_toArray, List.getElem_cons_succ, List.getElem_cons_zero]
          refine wpAnyH_ready (rs := [7]) (by kernel_rfl) (by simp) (AllReadyH.cons rfl (fun K hK => ?_) AllReadyH.nil)
          rw [if_pos (by kernel_rfl)]
          go_simp
          refine (H1.out _ (HG8.out.on (Below.refl u8.heap.size u8).drew)).mono ?_
          rintro e y1 ⟨rfl, hy1⟩
          try dsimp only
          refine hK.out _ _ (hy1.head) (fun hHeld => ?_)
          try simp only [Act.put, List.setIfInBounds_toArray, List.set_cons_zero, List.set_cons_succ, List.getElem_toArray, List.getElem_cons_succ, List.getElem_cons_zero]
          refine wpAnyH_ready (rs := [15]) (by kernel_rfl) (by simp) (AllReadyH.cons rfl (fun K hK => ?_) AllReadyH.nil)
          rw [if_pos (by kernel_rfl)]
          go_simp
          refine (H2.out _ hy1).mono ?_
          rintro e y2 ⟨rfl, hy2⟩
          try dsimp only
          refine hK.out _ _ (hy2.head) (fun hHeld => ?_)
          try simp only [Act.put, List.setIfInBounds_toArray, List.set_cons_zero, List.set_cons_succ, List.getElem_toArray, List.getElem_cons_succ, List.getElem_cons_zero]
          refine take_at (some 82) (i := 16) (v := ?_) rfl rfl (by kernel_rfl) (by kernel_rfl) (by kernel_rfl) (fun _ _ _ h => h) (Or.inl ⟨by kernel_rfl, ?_⟩) hHeld ?_
          rotate_left
          · intro wz hSw; have k1 : wz.cell? ⟨gb, 1, none⟩ = some (.string xt) := hSw.cell 1; have k2 : wz.cell? ⟨gb, 2, none⟩ = some (.string xk) := hSw.cell 2; have k3 : wz.cell? ⟨gb, 3, none⟩ = some (.string xn) := hSw.cell 3; have k4 : wz.cell? ⟨gb, 4, none⟩ = some (.string xp) := hSw.cell 4; have k5 : wz.cell? ⟨gb, 5, none⟩ = some (.int .i64 xo) := hSw.cell 5; go_simp; try (with_reducible rfl)
          try simp only [Act.put, List.setIfInBounds_toArray, List.set_cons_zero, List.set_cons_succ, List.getElem_toArray, List.getElem_cons_succ, List.getElem_cons_zero]
          refine take_at (some 83) (i := 17) (v := ?_) rfl rfl (by kernel_rfl) (by kernel_rfl) (by kernel_rfl) (fun _ _ _ h => h) (Or.inl ⟨by kernel_rfl, ?_⟩) hHeld ?_
          rotate_left
          · intro wz hSw; have k1 : wz.cell? ⟨gb, 1, none⟩ = some (.string xt) := hSw.cell 1; have k2 : wz.cell? ⟨gb, 2, none⟩ = some (.string xk) := hSw.cell 2; have k3 : wz.cell? ⟨gb, 3, none⟩ = some (.string xn) := hSw.cell 3; have k4 : wz.cell? ⟨gb, 4, none⟩ = some (.string xp) := hSw.cell 4; have k5 : wz.cell? ⟨gb, 5, none⟩ = some (.int .i64 xo) := hSw.cell 5; go_simp; try (with_reducible rfl)
          try simp only [Act.put, List.setIfInBounds_toArray, List.set_cons_zero, List.set_cons_succ, List.getElem_toArray, List.getElem_cons_succ, List.getElem_cons_zero]
          refine take_at (some 84) (i := 18) (v := ?_) rfl rfl (by kernel_rfl) (by kernel_rfl) (by kernel_rfl) (fun _ _ _ h => h) (Or.inl ⟨by kernel_rfl, ?_⟩) hHeld ?_
          rotate_left
          · intro wz hSw; have k1 : wz.cell? ⟨gb, 1, none⟩ = some (.string xt) := hSw.cell 1; have k2 : wz.cell? ⟨gb, 2, none⟩ = some (.string xk) := hSw.cell 2; have k3 : wz.cell? ⟨gb, 3, none⟩ = some (.string xn) := hSw.cell 3; have k4 : wz.cell? ⟨gb, 4, none⟩ = some (.string xp) := hSw.cell 4; have k5 : wz.cell? ⟨gb, 5, none⟩ = some (.int .i64 xo) := hSw.cell 5; go_simp; try (with_reducible rfl)
          try simp only [Act.put, List.setIfInBounds_toArray, List.set_cons_zero, List.set_cons_succ, List.getElem_toArray, List.getElem_cons_succ, List.getElem_cons_zero]
          refine take_at (some 85) (i := 19) (v := ?_) rfl rfl (by kernel_rfl) (by kernel_rfl) (by kernel_rfl) (fun _ _ _ h => h) (Or.inl ⟨by kernel_rfl, ?_⟩) hHeld ?_
          rotate_left
          · intro wz hSw; have k1 : wz.cell? ⟨gb, 1, none⟩ = some (.string xt) := hSw.cell 1; have k2 : wz.cell? ⟨gb, 2, none⟩ = some (.string xk) := hSw.cell 2; have k3 : wz.cell? ⟨gb, 3, none⟩ = some (.string xn) := hSw.cell 3; have k4 : wz.cell? ⟨gb, 4, none⟩ = some (.string xp) := hSw.cell 4; have k5 : wz.cell? ⟨gb, 5, none⟩ = some (.int .i64 xo) := hSw.cell 5; go_simp; try (with_reducible rfl)
          try simp only [Act.put, List.setIfInBounds_toArray, List.set_cons_zero, List.set_cons_succ, List.getElem_toArray, List.getElem_cons_succ, List.getElem_cons_zero]
          refine take_at (some 86) (i := 20) (v := ?_) rfl rfl (by kernel_rfl) (by kernel_rfl) (by kernel_rfl) (fun _ _ _ h => h) (Or.inl ⟨by kernel_rfl, ?_⟩) hHeld ?_
          rotate_left
          · intro wz hSw; have k1 : wz.cell? ⟨gb, 1, none⟩ = some (.string xt) := hSw.cell 1; have k2 : wz.cell? ⟨gb, 2, none⟩ = some (.string xk) := hSw.cell 2; have k3 : wz.cell? ⟨gb, 3, none⟩ = some (.string xn) := hSw.cell 3; have k4 : wz.cell? ⟨gb, 4, none⟩ = some (.string xp) := hSw.cell 4; have k5 : wz.cell? ⟨gb, 5, none⟩ = some (.int .i64 xo) := hSw.cell 5; go_simp; try (with_reducible rfl)
          try simp only [Act.put, List.setIfInBounds_toArray, List.set_cons_zero, List.set_cons_succ, List.getElem_toArray, List.getElem_cons_succ, List.getElem_cons_zero]
          refine take_at (some 87) (i := 21) (v := ?_) rfl rfl (by kernel_rfl) (by kernel_rfl) (by kernel_rfl) (fun _ _ _ h => h) (Or.inl ⟨by kernel_rfl, ?_⟩) hHeld ?_
          rotate_left
          · intro wz hSw; have k1 : wz.cell? ⟨gb, 1, none⟩ = some (.string xt) := hSw.cell 1; have k2 : wz.cell? ⟨gb, 2, none⟩ = some (.string xk) := hSw.cell 2; have k3 : wz.cell? ⟨gb, 3, none⟩ = some (.string xn) := hSw.cell 3; have k4 : wz.cell? ⟨gb, 4, none⟩ = some (.string xp) := hSw.cell 4; have k5 : wz.cell? ⟨gb, 5, none⟩ = some (.int .i64 xo) := hSw.cell 5; go_simp; try (with_reducible rfl)
          try simp only [Act.put, List.setIfInBounds_toArray, List.set_cons_zero, List.set_cons_succ, List.getElem_toArray, List.getElem_cons_succ, List.getElem_cons_zero]
          refine take_at (some 88) (i := 22) (v := ?_) rfl rfl (by kernel_rfl) (by kernel_rfl) (by kernel_rfl) (fun _ _ _ h => h) (Or.inl ⟨by kernel_rfl, ?_⟩) hHeld ?_
          rotate_left
          · intro wz hSw; have k1 : wz.cell? ⟨gb, 1, none⟩ = some (.string xt) := hSw.cell 1; have k2 : wz.cell? ⟨gb, 2, none⟩ = some (.string xk) := hSw.cell 2; have k3 : wz.cell? ⟨gb, 3, none⟩ = some (.string xn) := hSw.cell 3; have k4 : wz.cell? ⟨gb, 4, none⟩ = some (.string xp) := hSw.cell 4; have k5 : wz.cell? ⟨gb, 5, none⟩ = some (.int .i64 xo) := hSw.cell 5; go_simp; try (with_reducible rfl)
          try simp only [Act.put, List.setIfInBounds_toArray, List.set_cons_zero, List.set_cons_succ, List.getElem_toArray, List.getElem_cons_succ, List.getElem_cons_zero]
          refine take_at (some 89) (i := 23) (v := ?_) rfl rfl (by kernel_rfl) (by kernel_rfl) (by kernel_rfl) (fun _ _ _ h => h) (Or.inl ⟨by kernel_rfl, ?_⟩) hHeld ?_
          rotate_left
          · intro wz hSw; have k1 : wz.cell? ⟨gb, 1, none⟩ = some (.string xt) := hSw.cell 1; have k2 : wz.cell? ⟨gb, 2, none⟩ = some (.string xk) := hSw.cell 2; have k3 : wz.cell? ⟨gb, 3, none⟩ = some (.string xn) := hSw.cell 3; have k4 : wz.cell? ⟨gb, 4, none⟩ = some (.string xp) := hSw.cell 4; have k5 : wz.cell? ⟨gb, 5, none⟩ = some (.int .i64 xo) := hSw.cell 5; go_simp; try (with_reducible rfl)
          try simp only [Act.put, List.setIfInBounds_toArray, List.set_cons_zero, List.set_cons_succ, List.getElem_toArray, List.getElem_cons_succ, List.getElem_cons_zero]
          refine take_at (some 90) (i := 24) (v := ?_) rfl rfl (by kernel_rfl) (by kernel_rfl) (by kernel_rfl) (fun _ _ _ h => h) (Or.inl ⟨by kernel_rfl, ?_⟩) hHeld ?_
          rotate_left
          · intro wz hSw; have k1 : wz.cell? ⟨gb, 1, none⟩ = some (.string xt) := hSw.cell 1; have k2 : wz.cell? ⟨gb, 2, none⟩ = some (.string xk) := hSw.cell 2; have k3 : wz.cell? ⟨gb, 3, none⟩ = some (.string xn) := hSw.cell 3; have k4 : wz.cell? ⟨gb, 4, none⟩ = some (.string xp) := hSw.cell 4; have k5 : wz.cell? ⟨gb, 5, none⟩ = some (.int .i64 xo) := hSw.cell 5; go_simp; try (with_reducible rfl)
          try simp only [Act.put, List.setIfInBounds_toArray, List.set_cons_zero, List.set_cons_succ, List.getElem_toArray, List.getElem_cons_succ, List.getElem_cons_zero]
          refine take_at (some 92) (i := 26) (v := ?_) rfl rfl (by kernel_rfl) (by kernel_rfl) (by kernel_rfl) (fun _ _ _ h => h) (Or.inl ⟨by kernel_rfl, ?_⟩) hHeld ?_
          rotate_left
          · intro wz hSw; have k1 : wz.cell? ⟨gb, 1, none⟩ = some (.string xt) := hSw.cell 1; have k2 : wz.cell? ⟨gb, 2, none⟩ = some (.string xk) := hSw.cell 2; have k3 : wz.cell? ⟨gb, 3, none⟩ = some (.string xn) := hSw.cell 3; have k4 : wz.cell? ⟨gb, 4, none⟩ = some (.string xp) := hSw.cell 4; have k5 : wz.cell? ⟨gb, 5, none⟩ = some (.int .i64 xo) := hSw.cell 5; go_simp; try (with_reducible rfl)
          try simp only [Act.put, List.setIfInBounds_toArray, List.set_cons_zero, List.set_cons_succ, List.getElem_toArray, List.getElem_cons_succ, List.getElem_cons_zero]
          refine take_at (some 93) (i := 27) (v := ?_) rfl rfl (by kernel_rfl) (by kernel_rfl) (by kernel_rfl) (fun _ _ _ h => h) (Or.inl ⟨by kernel_rfl, ?_⟩) hHeld ?_
          rotate_left
          · intro wz hSw; have k1 : wz.cell? ⟨gb, 1, none⟩ = some (.string xt) := hSw.cell 1; have k2 : wz.cell? ⟨gb, 2, none⟩ = some (.string xk) := hSw.cell 2; have k3 : wz.cell? ⟨gb, 3, none⟩ = some (.string xn) := hSw.cell 3; have k4 : wz.cell? ⟨gb, 4, none⟩ = some (.string xp) := hSw.cell 4; have k5 : wz.cell? ⟨gb, 5, none⟩ = some (.int .i64 xo) := hSw.cell 5; go_simp; try (with_reducible rfl)
          try simp only [Act.put, List.setIfInBounds_toArray, List.set_cons_zero, List.set_cons_succ, List.getElem_toArray, List.getElem_cons_succ, List.getElem_cons_zero]
          refine take_at (some 94) (i := 28) (v := ?_) rfl rfl (by kernel_rfl) (by kernel_rfl) (by kernel_rfl) (fun _ _ _ h => h) (Or.inl ⟨by kernel_rfl, ?_⟩) hHeld ?_
          rotate_left
          · intro wz hSw; have k1 : wz.cell? ⟨gb, 1, none⟩ = some (.string xt) := hSw.cell 1; have k2 : wz.cell? ⟨gb, 2, none⟩ = some (.string xk) := hSw.cell 2; have k3 : wz.cell? ⟨gb, 3, none⟩ = some (.string xn) := hSw.cell 3; have k4 : wz.cell? ⟨gb, 4, none⟩ = some (.string xp) := hSw.cell 4; have k5 : wz.cell? ⟨gb, 5, none⟩ = some (.int .i64 xo) := hSw.cell 5; go_simp; try (with_reducible rfl)
          try simp only [Act.put, List.setIfInBounds_toArray, List.set_cons_zero, List.set_cons_succ, List.getElem_toArray, List.getElem_cons_succ, List.getElem_cons_zero]
          refine take_at (some 95) (i := 29) (v := ?_) rfl rfl (by kernel_rfl) (by kernel_rfl) (by kernel_rfl) (fun _ _ _ h => h) (Or.inl ⟨by kernel_rfl, ?_⟩) hHeld ?_
          rotate_left
          · intro wz hSw; have k1 : wz.cell? ⟨gb, 1, none⟩ = some (.string xt) := hSw.cell 1; have k2 : wz.cell? ⟨gb, 2, none⟩ = some (.string xk) := hSw.cell 2; have k3 : wz.cell? ⟨gb, 3, none⟩ = some (.string xn) := hSw.cell 3; have k4 : wz.cell? ⟨gb, 4, none⟩ = some (.string xp) := hSw.cell 4; have k5 : wz.cell? ⟨gb, 5, none⟩ = some (.int .i64 xo) := hSw.cell 5; go_simp; try (with_reducible rfl)
          try simp only [Act.put, List.setIfInBounds_toArray, List.set_cons_zero, List.set_cons_succ, List.getElem_toArray, List.getElem_cons_succ, List.getElem_cons_zero]
          refine take_at (some 96) (i := 30) (v := ?_) rfl rfl (by kernel_rfl) (by kernel_rfl) (by kernel_rfl) (fun _ _ _ h => h) (Or.inl ⟨by kernel_rfl, ?_⟩) hHeld ?_
          rotate_left
          · intro wz hSw; have k1 : wz.cell? ⟨gb, 1, none⟩ = some (.string xt) := hSw.cell 1; have k2 : wz.cell? ⟨gb, 2, none⟩ = some (.string xk) := hSw.cell 2; have k3 : wz.cell? ⟨gb, 3, none⟩ = some (.string xn) := hSw.cell 3; have k4 : wz.cell? ⟨gb, 4, none⟩ = some (.string xp) := hSw.cell 4; have k5 : wz.cell? ⟨gb, 5, none⟩ = some (.int .i64 xo) := hSw.cell 5; go_simp; try (with_reducible rfl)
          try simp only [Act.put, List.setIfInBounds_toArray, List.set_cons_zero, List.set_cons_succ, List.getElem_toArray, List.getElem_cons_succ, List.getElem_cons_zero]
          refine take_at (some 97) (i := 31) (v := ?_) rfl rfl (by kernel_rfl) (by kernel_rfl) (by kernel_rfl) (fun _ _ _ h => h) (Or.inl ⟨by kernel_rfl, ?_⟩) hHeld ?_
          rotate_left
          · intro wz hSw; have k1 : wz.cell? ⟨gb, 1, none⟩ = some (.string xt) := hSw.cell 1; have k2 : wz.cell? ⟨gb, 2, none⟩ = some (.string xk) := hSw.cell 2; have k3 : wz.cell? ⟨gb, 3, none⟩ = some (.string xn) := hSw.cell 3; have k4 : wz.cell? ⟨gb, 4, none⟩ = some (.string xp) := hSw.cell 4; have k5 : wz.cell? ⟨gb, 5, none⟩ = some (.int .i64 xo) := hSw.cell 5; go_simp; try (with_reducible rfl)
          try simp only [Act.put, List.setIfInBounds_toArray, List.set_cons_zero, List.set_cons_succ, List.getElem_toArray, List.getElem_cons_succ, List.getElem_cons_zero]
          refine take_at (some 98) (i := 32) (v := ?_) rfl rfl (by kernel_rfl) (by kernel_rfl) (by kernel_rfl) (fun _ _ _ h => h) (Or.inl ⟨by kernel_rfl, ?_⟩) hHeld ?_
          rotate_left
          · intro wz hSw; have k1 : wz.cell? ⟨gb, 1, none⟩ = some (.string xt) := hSw.cell 1; have k2 : wz.cell? ⟨gb, 2, none⟩ = some (.string xk) := hSw.cell 2; have k3 : wz.cell? ⟨gb, 3, none⟩ = some (.string xn) := hSw.cell 3; have k4 : wz.cell? ⟨gb, 4, none⟩ = some (.string xp) := hSw.cell 4; have k5 : wz.cell? ⟨gb, 5, none⟩ = some (.int .i64 xo) := hSw.cell 5; go_simp; try (with_reducible rfl)
          try simp only [Act.put, List.setIfInBounds_toArray, List.set_cons_zero, List.set_cons_succ, List.getElem_toArray, List.getElem_cons_succ, List.getElem_cons_zero]
          refine wpAnyH_ready (rs := [25]) (by kernel_rfl) (by simp) (AllReadyH.cons rfl (fun K hK => ?_) AllReadyH.nil)
          rw [if_pos (by kernel_rfl)]
          go_simp
          refine (H3.out _ hy2).mono ?_
          rintro e y3 ⟨rfl, hy3⟩
          try dsimp only
          refine hK.out _ _ (hy3.head) (fun hHeld => ?_)
          try simp only [Act.put, List.setIfInBounds_toArray, List.set_cons_zero, List.set_cons_succ, List.getElem_toArray, List.getElem_cons_succ, List.getElem_cons_zero]
          refine wpAnyH_ready (rs := [33]) (by kernel_rfl) (by simp) (AllReadyH.cons rfl (fun K hK => ?_) AllReadyH.nil)
          rw [if_pos (by kernel_rfl)]
          go_simp
          refine (H4.out _ hy3).mono ?_
          rintro e y4 ⟨rfl, hy4⟩
          try dsimp only
          refine hK.out _ _ (hy4.head) (fun hHeld => ?_)
          try simp only [Act.put, List.setIfInBounds_toArray, List.set_cons_zero, List.set_cons_succ, List.getElem_toArray, List.getElem_cons_succ, List.getElem_cons_zero]
          refine take_at (some 100) (i := 34) (v := ?_) rfl rfl (by kernel_rfl) (by kernel_rfl) (by kernel_rfl) (fun _ _ _ h => h) (Or.inl ⟨by kernel_rfl, ?_⟩) hHeld ?_
          rotate_left
          · intro wz hSw; have k1 : wz.cell? ⟨gb, 1, none⟩ = some (.string xt) := hSw.cell 1; have k2 : wz.cell? ⟨gb, 2, none⟩ = some (.string xk) := hSw.cell 2; have k3 : wz.cell? ⟨gb, 3, none⟩ = some (.string xn) := hSw.cell 3; have k4 : wz.cell? ⟨gb, 4, none⟩ = some (.string xp) := hSw.cell 4; have k5 : wz.cell? ⟨gb, 5, none⟩ = some (.int .i64 xo) := hSw.cell 5; go_simp; try (with_reducible rfl)
          try simp only [Act.put, List.setIfInBounds_toArray, List.set_cons_zero, List.set_cons_succ, List.getElem_toArray, List.getElem_cons_succ, List.getElem_cons_zero]
          refine take_at (some 101) (i := 35) (v := ?_) rfl rfl (by kernel_rfl) (by kernel_rfl) (by kernel_rfl) (fun _ _ _ h => h) (Or.inl ⟨by kernel_rfl, ?_⟩) hHeld ?_
          rotate_left
          · intro wz hSw; have k1 : wz.cell? ⟨gb, 1, none⟩ = some (.string xt) := hSw.cell 1; have k2 : wz.cell? ⟨gb, 2, none⟩ = some (.string xk) := hSw.cell 2; have k3 : wz.cell? ⟨gb, 3, none⟩ = some (.string xn) := hSw.cell 3; have k4 : wz.cell? ⟨gb, 4, none⟩ = some (.string xp) := hSw.cell 4; have k5 : wz.cell? ⟨gb, 5, none⟩ = some (.int .i64 xo) := hSw.cell 5; go_simp; try (with_reducible rfl)
          try simp only [Act.put, List.setIfInBounds_toArray, List.set_cons_zero, List.set_cons_succ, List.getElem_toArray, List.getElem_cons_succ, List.getElem_cons_zero]
          refine take_at (some 102) (i := 36) (v := ?_) rfl rfl (by kernel_rfl) (by kernel_rfl) (by kernel_rfl) (fun _ _ _ h => h) (Or.inl ⟨by kernel_rfl, ?_⟩) hHeld ?_
          rotate_left
          · intro wz hSw; have k1 : wz.cell? ⟨gb, 1, none⟩ = some (.string xt) := hSw.cell 1; have k2 : wz.cell? ⟨gb, 2, none⟩ = some (.string xk) := hSw.cell 2; have k3 : wz.cell? ⟨gb, 3, none⟩ = some (.string xn) := hSw.cell 3; have k4 : wz.cell? ⟨gb, 4, none⟩ = some (.string xp) := hSw.cell 4; have k5 : wz.cell? ⟨gb, 5, none⟩ = some (.int .i64 xo) := hSw.cell 5; go_simp; try (with_reducible rfl)
          try simp only [Act.put, List.setIfInBounds_toArray, List.set_cons_zero, List.set_cons_succ, List.getElem_toArray, List.getElem_cons_succ, List.getElem_cons_zero]
          refine take_at (some 103) (i := 37) (v := ?_) rfl rfl (by kernel_rfl) (by kernel_rfl) (by kernel_rfl) (fun _ _ _ h => h) (Or.inl ⟨by kernel_rfl, ?_⟩) hHeld ?_
          rotate_left
          · intro wz hSw; have k1 : wz.cell? ⟨gb, 1, none⟩ = some (.string xt) := hSw.cell 1; have k2 : wz.cell? ⟨gb, 2, none⟩ = some (.string xk) := hSw.cell 2; have k3 : wz.cell? ⟨gb, 3, none⟩ = some (.string xn) := hSw.cell 3; have k4 : wz.cell? ⟨gb, 4, none⟩ = some (.string xp) := hSw.cell 4; have k5 : wz.cell? ⟨gb, 5, none⟩ = some (.int .i64 xo) := hSw.cell 5; go_simp; try (with_reducible rfl)
          try simp only [Act.put, List.setIfInBounds_toArray, List.set_cons_zero, List.set_cons_succ, List.getElem_toArray, List.getElem_cons_succ, List.getElem_cons_zero]
          refine take_at (some 104) (i := 38) (v := ?_) rfl rfl (by kernel_rfl) (by kernel_rfl) (by kernel_rfl) (fun _ _ _ h => h) (Or.inl ⟨by kernel_rfl, ?_⟩) hHeld ?_
          rotate_left
          · intro wz hSw; have k1 : wz.cell? ⟨gb, 1, none⟩ = some (.string xt) := hSw.cell 1; have k2 : wz.cell? ⟨gb, 2, none⟩ = some (.string xk) := hSw.cell 2; have k3 : wz.cell? ⟨gb, 3, none⟩ = some (.string xn) := hSw.cell 3; have k4 : wz.cell? ⟨gb, 4, none⟩ = some (.string xp) := hSw.cell 4; have k5 : wz.cell? ⟨gb, 5, none⟩ = some (.int .i64 xo) := hSw.cell 5; go_simp; try (with_reducible rfl)
          try simp only [Act.put, List.setIfInBounds_toArray, List.set_cons_zero, List.set_cons_succ, List.getElem_toArray, List.getElem_cons_succ, List.getElem_cons_zero]
          refine take_at (some 105) (i := 39) (v := ?_) rfl rfl (by kernel_rfl) (by kernel_rfl) (by kernel_rfl) (fun _ _ _ h => h) (Or.inl ⟨by kernel_rfl, ?_⟩) hHeld ?_
          rotate_left
          · intro wz hSw; have k1 : wz.cell? ⟨gb, 1, none⟩ = some (.string xt) := hSw.cell 1; have k2 : wz.cell? ⟨gb, 2, none⟩ = some (.string xk) := hSw.cell 2; have k3 : wz.cell? ⟨gb, 3, none⟩ = some (.string xn) := hSw.cell 3; have k4 : wz.cell? ⟨gb, 4, none⟩ = some (.string xp) := hSw.cell 4; have k5 : wz.cell? ⟨gb, 5, none⟩ = some (.int .i64 xo) := hSw.cell 5; go_simp; try (with_reducible rfl)
          try simp only [Act.put, List.setIfInBounds_toArray, List.set_cons_zero, List.set_cons_succ, List.getElem_toArray, List.getElem_cons_succ, List.getElem_cons_zero]
          refine take_at (some 106) (i := 40) (v := ?_) rfl rfl (by kernel_rfl) (by kernel_rfl) (by kernel_rfl) (fun _ _ _ h => h) (Or.inl ⟨by kernel_rfl, ?_⟩) hHeld ?_
          rotate_left
          · intro wz hSw; have k1 : wz.cell? ⟨gb, 1, none⟩ = some (.string xt) := hSw.cell 1; have k2 : wz.cell? ⟨gb, 2, none⟩ = some (.string xk) := hSw.cell 2; have k3 : wz.cell? ⟨gb, 3, none⟩ = some (.string xn) := hSw.cell 3; have k4 : wz.cell? ⟨gb, 4, none⟩ = some (.string xp) := hSw.cell 4; have k5 : wz.cell? ⟨gb, 5, none⟩ = some (.int .i64 xo) := hSw.cell 5; go_simp; try (with_reducible rfl)
          try simp only [Act.put, List.setIfInBounds_toArray, List.set_cons_zero, List.set_cons_succ, List.getElem_toArray, List.getElem_cons_succ, List.getElem_cons_zero]
          refine take_at (some 107) (i := 41) (v := ?_) rfl rfl (by kernel_rfl) (by kernel_rfl) (by kernel_rfl) (fun _ _ _ h => h) (Or.inl ⟨by kernel_rfl, ?_⟩) hHeld ?_
          rotate_left
          · intro wz hSw; have k1 : wz.cell? ⟨gb, 1, none⟩ = some (.string xt) := hSw.cell 1; have k2 : wz.cell? ⟨gb, 2, none⟩ = some (.string xk) := hSw.cell 2; have k3 : wz.cell? ⟨gb, 3, none⟩ = some (.string xn) := hSw.cell 3; have k4 : wz.cell? ⟨gb, 4, none⟩ = some (.string xp) := hSw.cell 4; have k5 : wz.cell? ⟨gb, 5, none⟩ = some (.int .i64 xo) := hSw.cell 5; go_simp; try (with_reducible rfl)
          try simp only [Act.put, List.setIfInBounds_toArray, List.set_cons_zero, List.set_cons_succ, List.getElem_toArray, List.getElem_cons_succ, List.getElem_cons_zero]
          refine take_at (some 108) (i := 42) (v := ?_) rfl rfl (by kernel_rfl) (by kernel_rfl) (by kernel_rfl) (fun _ _ _ h => h) (Or.inl ⟨by kernel_rfl, ?_⟩) hHeld ?_
          rotate_left
          · intro wz hSw; have k1 : wz.cell? ⟨gb, 1, none⟩ = some (.string xt) := hSw.cell 1; have k2 : wz.cell? ⟨gb, 2, none⟩ = some (.string xk) := hSw.cell 2; have k3 : wz.cell? ⟨gb, 3, none⟩ = some (.string xn) := hSw.cell 3; have k4 : wz.cell? ⟨gb, 4, none⟩ = some (.string xp) := hSw.cell 4; have k5 : wz.cell? ⟨gb, 5, none⟩ = some (.int .i64 xo) := hSw.cell 5; go_simp; try (with_reducible rfl)
          try simp only [Act.put, List.setIfInBounds_toArray, List.set_cons_zero, List.set_cons_succ, List.getElem_toArray, List.getElem_cons_succ, List.getElem_cons_zero]
          refine take_at (some 109) (i := 43) (v := ?_) rfl rfl (by kernel_rfl) (by kernel_rfl) (by kernel_rfl) (fun _ _ _ h => h) (Or.inl ⟨by kernel_rfl, ?_⟩) hHeld ?_
          rotate_left
          · intro wz hSw; have k1 : wz.cell? ⟨gb, 1, none⟩ = some (.string xt) := hSw.cell 1; have k2 : wz.cell? ⟨gb, 2, none⟩ = some (.string xk) := hSw.cell 2; have k3 : wz.cell? ⟨gb, 3, none⟩ = some (.string xn) := hSw.cell 3; have k4 : wz.cell? ⟨gb, 4, none⟩ = some (.string xp) := hSw.cell 4; have k5 : wz.cell? ⟨gb, 5, none⟩ = some (.int .i64 xo) := hSw.cell 5; go_simp; try (with_reducible rfl)
          try simp only [Act.put, List.setIfInBounds_toArray, List.set_cons_zero, List.set_cons_succ, List.getElem_toArray, List.getElem_cons_succ, List.getElem_cons_zero]
          refine take_at (some 110) (i := 44) (v := ?_) rfl rfl (by kernel_rfl) (by kernel_rfl) (by kernel_rfl) (fun _ _ _ h => h) (Or.inl ⟨by kernel_rfl, ?_⟩) hHeld ?_
          rotate_left
          · intro wz hSw; have k1 : wz.cell? ⟨gb, 1, none⟩ = some (.string xt) := hSw.cell 1; have k2 : wz.cell? ⟨gb, 2, none⟩ = some (.string xk) := hSw.cell 2; have k3 : wz.cell? ⟨gb, 3, none⟩ = some (.string xn) := hSw.cell 3; have k4 : wz.cell? ⟨gb, 4, none⟩ = some (.string xp) := hSw.cell 4; have k5 : wz.cell? ⟨gb, 5, none⟩ = some (.int .i64 xo) := hSw.cell 5; go_simp; try (with_reducible rfl)
          try simp only [Act.put, List.setIfInBounds_toArray, List.set_cons_zero, List.set_cons_succ, List.getElem_toArray, List.getElem_cons_succ, List.getElem_cons_zero]
          refine take_at (some 111) (i := 45) (v := ?_) rfl rfl (by kernel_rfl) (by kernel_rfl) (by kernel_rfl) (fun _ _ _ h => h) (Or.inl ⟨by kernel_rfl, ?_⟩) hHeld ?_
          rotate_left
          · intro wz hSw; have k1 : wz.cell? ⟨gb, 1, none⟩ = some (.string xt) := hSw.cell 1; have k2 : wz.cell? ⟨gb, 2, none⟩ = some (.string xk) := hSw.cell 2; have k3 : wz.cell? ⟨gb, 3, none⟩ = some (.string xn) := hSw.cell 3; have k4 : wz.cell? ⟨gb, 4, none⟩ = some (.string xp) := hSw.cell 4; have k5 : wz.cell? ⟨gb, 5, none⟩ = some (.int .i64 xo) := hSw.cell 5; go_simp; try (with_reducible rfl)
          try simp only [Act.put, List.setIfInBounds_toArray, List.set_cons_zero, List.set_cons_succ, List.getElem_toArray, List.getElem_cons_succ, List.getElem_cons_zero]
          refine take_at (some 112) (i := 46) (v := ?_) rfl rfl (by kernel_rfl) (by kernel_rfl) (by kernel_rfl) (fun _ _ _ h => h) (Or.inl ⟨by kernel_rfl, ?_⟩) hHeld ?_
          rotate_left
          · intro wz hSw; have k1 : wz.cell? ⟨gb, 1, none⟩ = some (.string xt) := hSw.cell 1; have k2 : wz.cell? ⟨gb, 2, none⟩ = some (.string xk) := hSw.cell 2; have k3 : wz.cell? ⟨gb, 3, none⟩ = some (.string xn) := hSw.cell 3; have k4 : wz.cell? ⟨gb, 4, none⟩ = some (.string xp) := hSw.cell 4; have k5 : wz.cell? ⟨gb, 5, none⟩ = some (.int .i64 xo) := hSw.cell 5; go_simp; try (with_reducible rfl)
          try simp only [Act.put, List.setIfInBounds_toArray, List.set_cons_zero, List.set_cons_succ, List.getElem_toArray, List.getElem_cons_succ, List.getElem_cons_zero]
          refine take_at (some 113) (i := 47) (v := ?_) rfl rfl (by kernel_rfl) (by kernel_rfl) (by kernel_rfl) (fun _ _ _ h => h) (Or.inl ⟨by kernel_rfl, ?_⟩) hHeld ?_
          rotate_left
          · intro wz hSw; have k1 : wz.cell? ⟨gb, 1, none⟩ = some (.string xt) := hSw.cell 1; have k2 : wz.cell? ⟨gb, 2, none⟩ = some (.string xk) := hSw.cell 2; have k3 : wz.cell? ⟨gb, 3, none⟩ = some (.string xn) := hSw.cell 3; have k4 : wz.cell? ⟨gb, 4, none⟩ = some (.string xp) := hSw.cell 4; have k5 : wz.cell? ⟨gb, 5, none⟩ = some (.int .i64 xo) := hSw.cell 5; go_simp; try (with_reducible rfl)
          try simp only [Act.put, List.setIfInBounds_toArray, List.set_cons_zero, List.set_cons_succ, List.getElem_toArray, List.getElem_cons_succ, List.getElem_cons_zero]
          refine take_at (some 115) (i := 49) (v := ?_) rfl rfl (by kernel_rfl) (by kernel_rfl) (by kernel_rfl) (fun _ _ _ h => h) (Or.inl ⟨by kernel_rfl, ?_⟩) hHeld ?_
          rotate_left
          · intro wz hSw; have k1 : wz.cell? ⟨gb, 1, none⟩ = some (.string xt) := hSw.cell 1; have k2 : wz.cell? ⟨gb, 2, none⟩ = some (.string xk) := hSw.cell 2; have k3 : wz.cell? ⟨gb, 3, none⟩ = some (.string xn) := hSw.cell 3; have k4 : wz.cell? ⟨gb, 4, none⟩ = some (.string xp) := hSw.cell 4; have k5 : wz.cell? ⟨gb, 5, none⟩ = some (.int .i64 xo) := hSw.cell 5; go_simp; try (with_reducible rfl)
          try simp only [Act.put, List.setIfInBounds_toArray, List.set_cons_zero, List.set_cons_succ, List.getElem_toArray, List.getElem_cons_succ, List.getElem_cons_zero]
          refine take_at (some 116) (i := 50) (v := ?_) rfl rfl (by kernel_rfl) (by kernel_rfl) (by kernel_rfl) (fun _ _ _ h => h) (Or.inl ⟨by kernel_rfl, ?_⟩) hHeld ?_
          rotate_left
          · intro wz hSw; have k1 : wz.cell? ⟨gb, 1, none⟩ = some (.string xt) := hSw.cell 1; have k2 : wz.cell? ⟨gb, 2, none⟩ = some (.string xk) := hSw.cell 2; have k3 : wz.cell? ⟨gb, 3, none⟩ = some (.string xn) := hSw.cell 3; have k4 : wz.cell? ⟨gb, 4, none⟩ = some (.string xp) := hSw.cell 4; have k5 : wz.cell? ⟨gb, 5, none⟩ = some (.int .i64 xo) := hSw.cell 5; go_simp; try (with_reducible rfl)
          try simp only [Act.put, List.setIfInBounds_toArray, List.set_cons_zero, List.set_cons_succ, List.getElem_toArray, List.getElem_cons_succ, List.getElem_cons_zero]
          refine take_at (some 117) (i := 51) (v := ?_) rfl rfl (by kernel_rfl) (by kernel_rfl) (by kernel_rfl) (fun _ _ _ h => h) (Or.inl ⟨by kernel_rfl, ?_⟩) hHeld ?_
          rotate_left
          · intro wz hSw; have k1 : wz.cell? ⟨gb, 1, none⟩ = some (.string xt) := hSw.cell 1; have k2 : wz.cell? ⟨gb, 2, none⟩ = some (.string xk) := hSw.cell 2; have k3 : wz.cell? ⟨gb, 3, none⟩ = some (.string xn) := hSw.cell 3; have k4 : wz.cell? ⟨gb, 4, none⟩ = some (.string xp) := hSw.cell 4; have k5 : wz.cell? ⟨gb, 5, none⟩ = some (.int .i64 xo) := hSw.cell 5; go_simp; try (with_reducible rfl)
          try simp only [Act.put, List.setIfInBounds_toArray, List.set_cons_zero, List.set_cons_succ, List.getElem_toArray, List.getElem_cons_succ, List.getElem_cons_zero]
          refine take_at (some 118) (i := 52) (v := ?_) rfl rfl (by kernel_rfl) (by kernel_rfl) (by kernel_rfl) (fun _ _ _ h => h) (Or.inl ⟨by kernel_rfl, ?_⟩) hHeld ?_
          rotate_left
          · intro wz hSw; have k1 : wz.cell? ⟨gb, 1, none⟩ = some (.string xt) := hSw.cell 1; have k2 : wz.cell? ⟨gb, 2, none⟩ = some (.string xk) := hSw.cell 2; have k3 : wz.cell? ⟨gb, 3, none⟩ = some (.string xn) := hSw.cell 3; have k4 : wz.cell? ⟨gb, 4, none⟩ = some (.string xp) := hSw.cell 4; have k5 : wz.cell? ⟨gb, 5, none⟩ = some (.int .i64 xo) := hSw.cell 5; go_simp; try (with_reducible rfl)
          try simp only [Act.put, List.setIfInBounds_toArray, List.set_cons_zero, List.set_cons_succ, List.getElem_toArray, List.getElem_cons_succ, List.getElem_cons_zero]
          refine take_at (some 119) (i := 53) (v := ?_) rfl rfl (by kernel_rfl) (by kernel_rfl) (by kernel_rfl) (fun _ _ _ h => h) (Or.inl ⟨by kernel_rfl, ?_⟩) hHeld ?_
          rotate_left
          · intro wz hSw; have k1 : wz.cell? ⟨gb, 1, none⟩ = some (.string xt) := hSw.cell 1; have k2 : wz.cell? ⟨gb, 2, none⟩ = some (.string xk) := hSw.cell 2; have k3 : wz.cell? ⟨gb, 3, none⟩ = some (.string xn) := hSw.cell 3; have k4 : wz.cell? ⟨gb, 4, none⟩ = some (.string xp) := hSw.cell 4; have k5 : wz.cell? ⟨gb, 5, none⟩ = some (.int .i64 xo) := hSw.cell 5; go_simp; try (with_reducible rfl)
          try simp only [Act.put, List.setIfInBounds_toArray, List.set_cons_zero, List.set_cons_succ, List.getElem_toArray, List.getElem_cons_succ, List.getElem_cons_zero]
          refine take_at (some 120) (i := 54) (v := ?_) rfl rfl (by kernel_rfl) (by kernel_rfl) (by kernel_rfl) (fun _ _ _ h => h) (Or.inl ⟨by kernel_rfl, ?_⟩) hHeld ?_
          rotate_left
          · intro wz hSw; have k1 : wz.cell? ⟨gb, 1, none⟩ = some (.string xt) := hSw.cell 1; have k2 : wz.cell? ⟨gb, 2, none⟩ = some (.string xk) := hSw.cell 2; have k3 : wz.cell? ⟨gb, 3, none⟩ = some (.string xn) := hSw.cell 3; have k4 : wz.cell? ⟨gb, 4, none⟩ = some (.string xp) := hSw.cell 4; have k5 : wz.cell? ⟨gb, 5, none⟩ = some (.int .i64 xo) := hSw.cell 5; go_simp; try (with_reducible rfl)
          try simp only [Act.put, List.setIfInBounds_toArray, List.set_cons_zero, List.set_cons_succ, List.getElem_toArray, List.getElem_cons_succ, List.getElem_cons_zero]
          refine take_at (some 121) (i := 55) (v := ?_) rfl rfl (by kernel_rfl) (by kernel_rfl) (by kernel_rfl) (fun _ _ _ h => h) (Or.inl ⟨by kernel_rfl, ?_⟩) hHeld ?_
          rotate_left
          · intro wz hSw; have k1 : wz.cell? ⟨gb, 1, none⟩ = some (.string xt) := hSw.cell 1; have k2 : wz.cell? ⟨gb, 2, none⟩ = some (.string xk) := hSw.cell 2; have k3 : wz.cell? ⟨gb, 3, none⟩ = some (.string xn) := hSw.cell 3; have k4 : wz.cell? ⟨gb, 4, none⟩ = some (.string xp) := hSw.cell 4; have k5 : wz.cell? ⟨gb, 5, none⟩ = some (.int .i64 xo) := hSw.cell 5; go_simp; try (with_reducible rfl)
          try simp only [Act.put, List.setIfInBounds_toArray, List.set_cons_zero, List.set_cons_succ, List.getElem_toArray, List.getElem_cons_succ, List.getElem_cons_zero]
          refine take_at (some 122) (i := 56) (v := ?_) rfl rfl (by kernel_rfl) (by kernel_rfl) (by kernel_rfl) (fun _ _ _ h => h) (Or.inl ⟨by kernel_rfl, ?_⟩) hHeld ?_
          rotate_left
          · intro wz hSw; have k1 : wz.cell? ⟨gb, 1, none⟩ = some (.string xt) := hSw.cell 1; have k2 : wz.cell? ⟨gb, 2, none⟩ = some (.string xk) := hSw.cell 2; have k3 : wz.cell? ⟨gb, 3, none⟩ = some (.string xn) := hSw.cell 3; have k4 : wz.cell? ⟨gb, 4, none⟩ = some (.string xp) := hSw.cell 4; have k5 : wz.cell? ⟨gb, 5, none⟩ = some (.int .i64 xo) := hSw.cell 5; go_simp; try (with_reducible rfl)
          try simp only [Act.put, List.setIfInBounds_toArray, List.set_cons_zero, List.set_cons_succ, List.getElem_toArray, List.getElem_cons_succ, List.getElem_cons_zero]
          refine take_at (some 123) (i := 57) (v := ?_) rfl rfl (by kernel_rfl) (by kernel_rfl) (by kernel_rfl) (fun _ _ _ h => h) (Or.inl ⟨by kernel_rfl, ?_⟩) hHeld ?_
          rotate_left
          · intro wz hSw; have k1 : wz.cell? ⟨gb, 1, none⟩ = some (.string xt) := hSw.cell 1; have k2 : wz.cell? ⟨gb, 2, none⟩ = some (.string xk) := hSw.cell 2; have k3 : wz.cell? ⟨gb, 3, none⟩ = some (.string xn) := hSw.cell 3; have k4 : wz.cell? ⟨gb, 4, none⟩ = some (.string xp) := hSw.cell 4; have k5 : wz.cell? ⟨gb, 5, none⟩ = some (.int .i64 xo) := hSw.cell 5; go_simp; try (with_reducible rfl)
          try simp only [Act.put, List.setIfInBounds_toArray, List.set_cons_zero, List.set_cons_succ, List.getElem_toArray, List.getElem_cons_succ, List.getElem_cons_zero]
          refine take_at (some 124) (i := 58) (v := ?_) rfl rfl (by kernel_rfl) (by kernel_rfl) (by kernel_rfl) (fun _ _ _ h => h) (Or.inl ⟨by kernel_rfl, ?_⟩) hHeld ?_
          rotate_left
          · intro wz hSw; have k1 : wz.cell? ⟨gb, 1, none⟩ = some (.string xt) := hSw.cell 1; have k2 : wz.cell? ⟨gb, 2, none⟩ = some (.string xk) := hSw.cell 2; have k3 : wz.cell? ⟨gb, 3, none⟩ = some (.string xn) := hSw.cell 3; have k4 : wz.cell? ⟨gb, 4, none⟩ = some (.string xp) := hSw.cell 4; have k5 : wz.cell? ⟨gb, 5, none⟩ = some (.int .i64 xo) := hSw.cell 5; go_simp; try (with_reducible rfl)
          try simp only [Act.put, List.setIfInBounds_toArray, List.set_cons_zero, List.set_cons_succ, List.getElem_toArray, List.getElem_cons_succ, List.getElem_cons_zero]
          refine take_at (some 125) (i := 59) (v := ?_) rfl rfl (by kernel_rfl) (by kernel_rfl) (by kernel_rfl) (fun _ _ _ h => h) (Or.inl ⟨by kernel_rfl, ?_⟩) hHeld ?_
          rotate_left
          · intro wz hSw; have k1 : wz.cell? ⟨gb, 1, none⟩ = some (.string xt) := hSw.cell 1; have k2 : wz.cell? ⟨gb, 2, none⟩ = some (.string xk) := hSw.cell 2; have k3 : wz.cell? ⟨gb, 3, none⟩ = some (.string xn) := hSw.cell 3; have k4 : wz.cell? ⟨gb, 4, none⟩ = some (.string xp) := hSw.cell 4; have k5 : wz.cell? ⟨gb, 5, none⟩ = some (.int .i64 xo) := hSw.cell 5; go_simp; try (with_reducible rfl)
          try simp only [Act.put, List.setIfInBounds_toArray, List.set_cons_zero, List.set_cons_succ, List.getElem_toArray, List.getElem_cons_succ, List.getElem_cons_zero]
          refine wpAnyH_ready (rs := [48]) (by kernel_rfl) (by simp) (AllReadyH.cons rfl (fun K hK => ?_) AllReadyH.nil)
          rw [if_pos (by kernel_rfl)]
          go_simp
          refine (H5.out _ hy4).mono ?_
          rintro e y5 ⟨rfl, hy5⟩
          try dsimp only
          refine hK.out _ _ (hy5.head) (fun hHeld => ?_)
          try simp only [Act.put, List.setIfInBounds_toArray, List.set_cons_zero, List.set_cons_succ, List.getElem_toArray, List.getElem_cons_succ, List.getElem_cons_zero]
          refine wpAnyH_ready (rs := [60]) (by kernel_rfl) (by simp) (AllReadyH.cons rfl (fun K hK => ?_) AllReadyH.nil)
          rw [if_pos (by kernel_rfl)]
          go_simp
          refine (H6.out _ hy5).mono ?_
          rintro e y6 ⟨rfl, hy6⟩
          try dsimp only
          refine hK.out _ _ (hy6.head) (fun hHeld => ?_)
          try simp only [Act.put, List.setIfInBounds_toArray, List.set_cons_zero, List.set_cons_succ, List.getElem_toArray, List.getElem_cons_succ, List.getElem_cons_zero]
          refine take_at (some 127) (i := 61) (v := ?_) rfl rfl (by kernel_rfl) (by kernel_rfl) (by kernel_rfl) (fun _ _ _ h => h) (Or.inl ⟨by kernel_rfl, ?_⟩) hHeld ?_
          rotate_left
          · intro wz hSw; go_simp; try (with_reducible rfl)
          try simp only [Act.put, List.setIfInBounds_toArray, List.set_cons_zero, List.set_cons_succ, List.getElem_toArray, List.getElem_cons_succ, List.getElem_cons_zero]
          refine take_at (some 128) (i := 62) (v := ?_) rfl rfl (by kernel_rfl) (by kernel_rfl) (by kernel_rfl) (fun _ _ _ h => h) (Or.inl ⟨by kernel_rfl, ?_⟩) hHeld ?_
          rotate_left
          · intro wz hSw; go_simp; try (with_reducible rfl)
          try simp only [Act.put, List.setIfInBounds_toArray, List.set_cons_zero, List.set_cons_succ, List.getElem_toArray, List.getElem_cons_succ, List.getElem_cons_zero]
          refine wpAnyH_done (by kernel_rfl) ?_ _
          refine gen_qH (fun y => Pl ub wb mb rb xr h1g h2g [(gb, 34, #[.int .i64 0, .string xt, .string xk, .string xn, .string xp, .int .i64 xo])] y) hy6 (fun y hy => ?_)
          have HGE := Lib.hid (hy.less (L' := []) (fun b hb => by cases hb))
          clear hy hHeld
          go_wp2
          go_roundw
          case rel => exact ⟨i + 1, h1g, h2g, by omega, by go_num, Lib.hid ⟨HL8.out.1, HL8.out.2.1⟩, HQ8, HGE⟩
          case measure => simp [intOf]; omega
        · have HL8 := Lib.hid (show g.length ≤ i + 1 ∧ P.length ≤ i + 1 ∧ P.length ≤ 1000 by have h1 := HGL.out; have h2 := HI.out; omega)
          go_upto_region 17 with fail
          clear d0 d1 d2
          have HCA := Lib.hid (show ∃ (G : Bool) (WS : ByteArray) (E : Int), (∀ u, Pl ub wb mb rb xr g P [(gb, 34, #[.int .i64 xw, .string xt, .string xk, .string xn, .string xp, .int .i64 xo])] u → Calls Tryd.prog 16 #[.pointer (some ⟨v, 0, none⟩), .string xt, .string xk, .int .i64 xo] u fun e u' => e = .returned (.bool G) ∧ Pl ub wb mb rb xr g P [(gb, 34, #[.int .i64 xw, .string xt, .string xk, .string xn, .string xp, .int .i64 xo])] u') ∧ (∀ u, Pl ub wb mb rb xr g P [(gb, 34, #[.int .i64 xw, .string xt, .string xk, .string xn, .string xp, .int .i64 xo])] u → Calls Tryd.prog 17 #[.pointer (some ⟨rb, 0, none⟩), .string xt, .string xk, .int .i64 xo] u fun e u' => e = .returned (.bool G) ∧ Pl ub wb mb rb xr g P [(gb, 34, #[.int .i64 xw, .string xt, .string xk, .string xn, .string xp, .int .i64 xo])] u') ∧ (∀ u, Pl ub wb mb rb xr g P [(gb, 34, #[.int .i64 xw, .string xt, .string xk, .string xn, .string xp, .int .i64 xo])] u → Calls Tryd.prog 18 #[.pointer (some ⟨v, 0, none⟩), .string xt, .string xk, .string xn] u fun e u' => e = .returned (.string WS) ∧ Pl ub wb mb rb xr g P [(gb, 34, #[.int .i64 xw, .string xt, .string xk, .string xn, .string xp, .int .i64 xo])] u') ∧ (∀ u, Pl ub wb mb rb xr g P [(gb, 34, #[.int .i64 xw, .string xt, .string xk, .string xn, .string xp, .int .i64 xo])] u → Calls Tryd.prog 19 #[.pointer (some ⟨rb, 0, none⟩), .string xt, .string xk, .string xn] u fun e u' => e = .returned (.string WS) ∧ Pl ub wb mb rb xr g P [(gb, 34, #[.int .i64 xw, .string xt, .string xk, .string xn, .string xp, .int .i64 xo])] u') ∧ (∀ u, Pl ub wb mb rb xr g P [(gb, 34, #[.int .i64 xw, .string xt, .string xk, .string xn, .string xp, .int .i64 xo])] u → Calls Tryd.prog 20 #[.pointer (some ⟨v, 0, none⟩), .string xt, .string xk, .string xn, .string xp, .int .i64 xo] u fun e u' => e = .returned (.int .i64 E) ∧ Pl ub wb mb rb xr g P [(gb, 34, #[.int .i64 xw, .string xt, .string xk, .string xn, .string xp, .int .i64 xo])] u') ∧ (∀ u, Pl ub wb mb rb xr g P [(gb, 34, #[.int .i64 xw, .string xt, .string xk, .string xn, .string xp, .int .i64 xo])] u → Calls Tryd.prog 21 #[.pointer (some ⟨rb, 0, none⟩), .string xt, .string xk, .string xn, .string xp, .int .i64 xo] u fun e u' => e = .returned (.int .i64 E) ∧ Pl ub wb mb rb xr g P [(gb, 34, #[.int .i64 xw, .string xt, .string xk, .string xn, .string xp, .int .i64 xo])] u') from ⟨_, _, _, fun u hu => pl_good HPB.out hu xt xk xo, fun u hu => by rw [HQ.out]; exact pl_rgood HPB.out hu HL8.out.2.2 xt xk xo, fun u hu => pl_want HPB.out hu HG.out xt xk xn (by have := HZS.out; omega), fun u hu => pl_rwant HPB.out hu xt xk xn (by have := HZS.out; omega) (by have := HZS.out; omega) (by have := HZS.out; omega) (fun k hk => HSE2.out xt xk k hk), fun u hu => pl_check HPB.out hu HG.out xt xk xn xp xo (by have := HZS.out; omega) (by have := HZS.out; omega), fun u hu => by rw [HQ.out]; exact pl_rcheck HPB.out hu HL8.out.2.2 xt xk xn xp xo (by have := HZS.out; omega) (by have := HZS.out; omega) (by have := HZS.out; omega) (fun k hk => HSE2.out xt xk k hk)⟩)
          obtain ⟨G, WS, E, g1, g2, g3, g4, g5, g6⟩ := HCA.out
          have H1 := Lib.hid g1
          have H2 := Lib.hid g2
          have H3 := Lib.hid g3
          have H4 := Lib.hid g4
          have H5 := Lib.hid g5
          have H6 := Lib.hid g6
          clear g1 g2 g3 g4 g5 g6 HCA
          have hws : (WS.toList == WS.toList) = true := beq_self_eq_true _
          try simp only [List.cons_append, List.nil_append]
          refine wp_region_held_drew (S := fun wz => Bk wz gb 34 #[.int .i64 xw, .string xt, .string xk, .string xn, .string xp, .int .i64 xo]) (by kernel_rfl) (HVN.out.head.drew) (fun hHeld => ?_)
          refine take_at (some 66) (i := 0) (v := ?_) rfl rfl (by kernel_rfl) (by kernel_rfl) (by kernel_rfl) (fun _ _ _ h => h) (Or.inl ⟨by kernel_rfl, ?_⟩) hHeld ?_
          rotate_left
          · intro wz hSw; have k1 : wz.cell? ⟨gb, 1, none⟩ = some (.string xt) := hSw.cell 1; have k2 : wz.cell? ⟨gb, 2, none⟩ = some (.string xk) := hSw.cell 2; have k3 : wz.cell? ⟨gb, 3, none⟩ = some (.string xn) := hSw.cell 3; have k4 : wz.cell? ⟨gb, 4, none⟩ = some (.string xp) := hSw.cell 4; have k5 : wz.cell? ⟨gb, 5, none⟩ = some (.int .i64 xo) := hSw.cell 5; go_simp; try (with_reducible rfl)
          try simp only [Act.put, List.setIfInBounds_toArray, List.set_cons_zero, List.set_cons_succ, List.getElem_toArray, List.getElem_cons_succ, List.getElem_cons_zero]
          refine take_at (some 67) (i := 1) (v := ?_) rfl rfl (by kernel_rfl) (by kernel_rfl) (by kernel_rfl) (fun _ _ _ h => h) (Or.inl ⟨by kernel_rfl, ?_⟩) hHeld ?_
          rotate_left
          · intro wz hSw; have k1 : wz.cell? ⟨gb, 1, none⟩ = some (.string xt) := hSw.cell 1; have k2 : wz.cell? ⟨gb, 2, none⟩ = some (.string xk) := hSw.cell 2; have k3 : wz.cell? ⟨gb, 3, none⟩ = some (.string xn) := hSw.cell 3; have k4 : wz.cell? ⟨gb, 4, none⟩ = some (.string xp) := hSw.cell 4; have k5 : wz.cell? ⟨gb, 5, none⟩ = some (.int .i64 xo) := hSw.cell 5; go_simp; try (with_reducible rfl)
          try simp only [Act.put, List.setIfInBounds_toArray, List.set_cons_zero, List.set_cons_succ, List.getElem_toArray, List.getElem_cons_succ, List.getElem_cons_zero]
          refine take_at (some 68) (i := 2) (v := ?_) rfl rfl (by kernel_rfl) (by kernel_rfl) (by kernel_rfl) (fun _ _ _ h => h) (Or.inl ⟨by kernel_rfl, ?_⟩) hHeld ?_
          rotate_left
          · intro wz hSw; have k1 : wz.cell? ⟨gb, 1, none⟩ = some (.string xt) := hSw.cell 1; have k2 : wz.cell? ⟨gb, 2, none⟩ = some (.string xk) := hSw.cell 2; have k3 : wz.cell? ⟨gb, 3, none⟩ = some (.string xn) := hSw.cell 3; have k4 : wz.cell? ⟨gb, 4, none⟩ = some (.string xp) := hSw.cell 4; have k5 : wz.cell? ⟨gb, 5, none⟩ = some (.int .i64 xo) := hSw.cell 5; go_simp; try (with_reducible rfl)
          try simp only [Act.put, List.setIfInBounds_toArray, List.set_cons_zero, List.set_cons_succ, List.getElem_toArray, List.getElem_cons_succ, List.getElem_cons_zero]
          refine take_at (some 69) (i := 3) (v := ?_) rfl rfl (by kernel_rfl) (by kernel_rfl) (by kernel_rfl) (fun _ _ _ h => h) (Or.inl ⟨by kernel_rfl, ?_⟩) hHeld ?_
          rotate_left
          · intro wz hSw; have k1 : wz.cell? ⟨gb, 1, none⟩ = some (.string xt) := hSw.cell 1; have k2 : wz.cell? ⟨gb, 2, none⟩ = some (.string xk) := hSw.cell 2; have k3 : wz.cell? ⟨gb, 3, none⟩ = some (.string xn) := hSw.cell 3; have k4 : wz.cell? ⟨gb, 4, none⟩ = some (.string xp) := hSw.cell 4; have k5 : wz.cell? ⟨gb, 5, none⟩ = some (.int .i64 xo) := hSw.cell 5; go_simp; try (with_reducible rfl)
          try simp only [Act.put, List.setIfInBounds_toArray, List.set_cons_zero, List.set_cons_succ, List.getElem_toArray, List.getElem_cons_succ, List.getElem_cons_zero]
          refine take_at (some 70) (i := 4) (v := ?_) rfl rfl (by kernel_rfl) (by kernel_rfl) (by kernel_rfl) (fun _ _ _ h => h) (Or.inl ⟨by kernel_rfl, ?_⟩) hHeld ?_
          rotate_left
          · intro wz hSw; have k1 : wz.cell? ⟨gb, 1, none⟩ = some (.string xt) := hSw.cell 1; have k2 : wz.cell? ⟨gb, 2, none⟩ = some (.string xk) := hSw.cell 2; have k3 : wz.cell? ⟨gb, 3, none⟩ = some (.string xn) := hSw.cell 3; have k4 : wz.cell? ⟨gb, 4, none⟩ = some (.string xp) := hSw.cell 4; have k5 : wz.cell? ⟨gb, 5, none⟩ = some (.int .i64 xo) := hSw.cell 5; go_simp; try (with_reducible rfl)
          try simp only [Act.put, List.setIfInBounds_toArray, List.set_cons_zero, List.set_cons_succ, List.getElem_toArray, List.getElem_cons_succ, List.getElem_cons_zero]
          refine take_at (some 71) (i := 5) (v := ?_) rfl rfl (by kernel_rfl) (by kernel_rfl) (by kernel_rfl) (fun _ _ _ h => h) (Or.inl ⟨by kernel_rfl, ?_⟩) hHeld ?_
          rotate_left
          · intro wz hSw; have k1 : wz.cell? ⟨gb, 1, none⟩ = some (.string xt) := hSw.cell 1; have k2 : wz.cell? ⟨gb, 2, none⟩ = some (.string xk) := hSw.cell 2; have k3 : wz.cell? ⟨gb, 3, none⟩ = some (.string xn) := hSw.cell 3; have k4 : wz.cell? ⟨gb, 4, none⟩ = some (.string xp) := hSw.cell 4; have k5 : wz.cell? ⟨gb, 5, none⟩ = some (.int .i64 xo) := hSw.cell 5; go_simp; try (with_reducible rfl)
          try simp only [Act.put, List.setIfInBounds_toArray, List.set_cons_zero, List.set_cons_succ, List.getElem_toArray, List.getElem_cons_succ, List.getElem_cons_zero]
          refine take_at (some 72) (i := 6) (v := ?_) rfl rfl (by kernel_rfl) (by kernel_rfl) (by kernel_rfl) (fun _ _ _ h => h) (Or.inl ⟨by kernel_rfl, ?_⟩) hHeld ?_
          rotate_left
          · intro wz hSw; have k1 : wz.cell? ⟨gb, 1, none⟩ = some (.string xt) := hSw.cell 1; have k2 : wz.cell? ⟨gb, 2, none⟩ = some (.string xk) := hSw.cell 2; have k3 : wz.cell? ⟨gb, 3, none⟩ = some (.string xn) := hSw.cell 3; have k4 : wz.cell? ⟨gb, 4, none⟩ = some (.string xp) := hSw.cell 4; have k5 : wz.cell? ⟨gb, 5, none⟩ = some (.int .i64 xo) := hSw.cell 5; go_simp; try (with_reducible rfl)
          try simp only [Act.put, List.setIfInBounds_toArray, List.set_cons_zero, List.set_cons_succ, List.getElem_toArray, List.getElem_cons_succ, List.getElem_cons_zero]
          refine take_at (some 74) (i := 8) (v := ?_) rfl rfl (by kernel_rfl) (by kernel_rfl) (by kernel_rfl) (fun _ _ _ h => h) (Or.inl ⟨by kernel_rfl, ?_⟩) hHeld ?_
          rotate_left
          · intro wz hSw; have k1 : wz.cell? ⟨gb, 1, none⟩ = some (.string xt) := hSw.cell 1; have k2 : wz.cell? ⟨gb, 2, none⟩ = some (.string xk) := hSw.cell 2; have k3 : wz.cell? ⟨gb, 3, none⟩ = some (.string xn) := hSw.cell 3; have k4 : wz.cell? ⟨gb, 4, none⟩ = some (.string xp) := hSw.cell 4; have k5 : wz.cell? ⟨gb, 5, none⟩ = some (.int .i64 xo) := hSw.cell 5; go_simp; try (with_reducible rfl)
          try simp only [Act.put, List.setIfInBounds_toArray, List.set_cons_zero, List.set_cons_succ, List.getElem_toArray, List.getElem_cons_succ, List.getElem_cons_zero]
          refine take_at (some 75) (i := 9) (v := ?_) rfl rfl (by kernel_rfl) (by kernel_rfl) (by kernel_rfl) (fun _ _ _ h => h) (Or.inl ⟨by kernel_rfl, ?_⟩) hHeld ?_
          rotate_left
          · intro wz hSw; have k1 : wz.cell? ⟨gb, 1, none⟩ = some (.string xt) := hSw.cell 1; have k2 : wz.cell? ⟨gb, 2, none⟩ = some (.string xk) := hSw.cell 2; have k3 : wz.cell? ⟨gb, 3, none⟩ = some (.string xn) := hSw.cell 3; have k4 : wz.cell? ⟨gb, 4, none⟩ = some (.string xp) := hSw.cell 4; have k5 : wz.cell? ⟨gb, 5, none⟩ = some (.int .i64 xo) := hSw.cell 5; go_simp; try (with_reducible rfl)
          try simp only [Act.put, List.setIfInBounds_toArray, List.set_cons_zero, List.set_cons_succ, List.getElem_toArray, List.getElem_cons_succ, List.getElem_cons_zero]
          refine take_at (some 76) (i := 10) (v := ?_) rfl rfl (by kernel_rfl) (by kernel_rfl) (by kernel_rfl) (fun _ _ _ h => h) (Or.inl ⟨by kernel_rfl, ?_⟩) hHeld ?_
          rotate_left
          · intro wz hSw; have k1 : wz.cell? ⟨gb, 1, none⟩ = some (.string xt) := hSw.cell 1; have k2 : wz.cell? ⟨gb, 2, none⟩ = some (.string xk) := hSw.cell 2; have k3 : wz.cell? ⟨gb, 3, none⟩ = some (.string xn) := hSw.cell 3; have k4 : wz.cell? ⟨gb, 4, none⟩ = some (.string xp) := hSw.cell 4; have k5 : wz.cell? ⟨gb, 5, none⟩ = some (.int .i64 xo) := hSw.cell 5; go_simp; try (with_reducible rfl)
          try simp only [Act.put, List.setIfInBounds_toArray, List.set_cons_zero, List.set_cons_succ, List.getElem_toArray, List.getElem_cons_succ, List.getElem_cons_zero]
          refine take_at (some 77) (i := 11) (v := ?_) rfl rfl (by kernel_rfl) (by kernel_rfl) (by kernel_rfl) (fun _ _ _ h => h) (Or.inl ⟨by kernel_rfl, ?_⟩) hHeld ?_
          rotate_left
          · intro wz hSw; have k1 : wz.cell? ⟨gb, 1, none⟩ = some (.string xt) := hSw.cell 1; have k2 : wz.cell? ⟨gb, 2, none⟩ = some (.string xk) := hSw.cell 2; have k3 : wz.cell? ⟨gb, 3, none⟩ = some (.string xn) := hSw.cell 3; have k4 : wz.cell? ⟨gb, 4, none⟩ = some (.string xp) := hSw.cell 4; have k5 : wz.cell? ⟨gb, 5, none⟩ = some (.int .i64 xo) := hSw.cell 5; go_simp; try (with_reducible rfl)
          try simp only [Act.put, List.setIfInBounds_toArray, List.set_cons_zero, List.set_cons_succ, List.getElem_toArray, List.getElem_cons_succ, List.getElem_cons_zero]
          refine take_at (some 78) (i := 12) (v := ?_) rfl rfl (by kernel_rfl) (by kernel_rfl) (by kernel_rfl) (fun _ _ _ h => h) (Or.inl ⟨by kernel_rfl, ?_⟩) hHeld ?_
          rotate_left
          · intro wz hSw; have k1 : wz.cell? ⟨gb, 1, none⟩ = some (.string xt) := hSw.cell 1; have k2 : wz.cell? ⟨gb, 2, none⟩ = some (.string xk) := hSw.cell 2; have k3 : wz.cell? ⟨gb, 3, none⟩ = some (.string xn) := hSw.cell 3; have k4 : wz.cell? ⟨gb, 4, none⟩ = some (.string xp) := hSw.cell 4; have k5 : wz.cell? ⟨gb, 5, none⟩ = some (.int .i64 xo) := hSw.cell 5; go_simp; try (with_reducible rfl)
          try simp only [Act.put, List.setIfInBounds_toArray, List.set_cons_zero, List.set_cons_succ, List.getElem_toArray, List.getElem_cons_succ, List.getElem_cons_zero]
          refine take_at (some 79) (i := 13) (v := ?_) rfl rfl (by kernel_rfl) (by kernel_rfl) (by kernel_rfl) (fun _ _ _ h => h) (Or.inl ⟨by kernel_rfl, ?_⟩) hHeld ?_
          rotate_left
          · intro wz hSw; have k1 : wz.cell? ⟨gb, 1, none⟩ = some (.string xt) := hSw.cell 1; have k2 : wz.cell? ⟨gb, 2, none⟩ = some (.string xk) := hSw.cell 2; have k3 : wz.cell? ⟨gb, 3, none⟩ = some (.string xn) := hSw.cell 3; have k4 : wz.cell? ⟨gb, 4, none⟩ = some (.string xp) := hSw.cell 4; have k5 : wz.cell? ⟨gb, 5, none⟩ = some (.int .i64 xo) := hSw.cell 5; go_simp; try (with_reducible rfl)
          try simp only [Act.put, List.setIfInBounds_toArray, List.set_cons_zero, List.set_cons_succ, List.getElem_toArray, List.getElem_cons_succ, List.getElem_cons_zero]
          refine take_at (some 80) (i := 14) (v := ?_) rfl rfl (by kernel_rfl) (by kernel_rfl) (by kernel_rfl) (fun _ _ _ h => h) (Or.inl ⟨by kernel_rfl, ?_⟩) hHeld ?_
          rotate_left
          · intro wz hSw; have k1 : wz.cell? ⟨gb, 1, none⟩ = some (.string xt) := hSw.cell 1; have k2 : wz.cell? ⟨gb, 2, none⟩ = some (.string xk) := hSw.cell 2; have k3 : wz.cell? ⟨gb, 3, none⟩ = some (.string xn) := hSw.cell 3; have k4 : wz.cell? ⟨gb, 4, none⟩ = some (.string xp) := hSw.cell 4; have k5 : wz.cell? ⟨gb, 5, none⟩ = some (.int .i64 xo) := hSw.cell 5; go_simp; try (with_reducible rfl)
          try simp only [Act.put, List.setIfInBounds_toArray, List.set_cons_zero, List.set_cons_succ, List.getElem_toArray, List.getElem_cons_succ, List.getElem_cons_zero]
          refine wpAnyH_ready (rs := [7]) (by kernel_rfl) (by simp) (AllReadyH.cons rfl (fun K hK => ?_) AllReadyH.nil)
          rw [if_pos (by kernel_rfl)]
          go_simp
          refine (H1.out _ (HVN.out.on (Below.refl wn.heap.size wn).drew)).mono ?_
          rintro e y1 ⟨rfl, hy1⟩
          try dsimp only
          refine hK.out _ _ (hy1.head) (fun hHeld => ?_)
          try simp only [Act.put, List.setIfInBounds_toArray, List.set_cons_zero, List.set_cons_succ, List.getElem_toArray, List.getElem_cons_succ, List.getElem_cons_zero]
          refine wpAnyH_ready (rs := [15]) (by kernel_rfl) (by simp) (AllReadyH.cons rfl (fun K hK => ?_) AllReadyH.nil)
          rw [if_pos (by kernel_rfl)]
          go_simp
          refine (H2.out _ hy1).mono ?_
          rintro e y2 ⟨rfl, hy2⟩
          try dsimp only
          refine hK.out _ _ (hy2.head) (fun hHeld => ?_)
          try simp only [Act.put, List.setIfInBounds_toArray, List.set_cons_zero, List.set_cons_succ, List.getElem_toArray, List.getElem_cons_succ, List.getElem_cons_zero]
          refine take_at (some 82) (i := 16) (v := ?_) rfl rfl (by kernel_rfl) (by kernel_rfl) (by kernel_rfl) (fun _ _ _ h => h) (Or.inl ⟨by kernel_rfl, ?_⟩) hHeld ?_
          rotate_left
          · intro wz hSw; have k1 : wz.cell? ⟨gb, 1, none⟩ = some (.string xt) := hSw.cell 1; have k2 : wz.cell? ⟨gb, 2, none⟩ = some (.string xk) := hSw.cell 2; have k3 : wz.cell? ⟨gb, 3, none⟩ = some (.string xn) := hSw.cell 3; have k4 : wz.cell? ⟨gb, 4, none⟩ = some (.string xp) := hSw.cell 4; have k5 : wz.cell? ⟨gb, 5, none⟩ = some (.int .i64 xo) := hSw.cell 5; go_simp; try (with_reducible rfl)
          try simp only [Act.put, List.setIfInBounds_toArray, List.set_cons_zero, List.set_cons_succ, List.getElem_toArray, List.getElem_cons_succ, List.getElem_cons_zero]
          refine take_at (some 83) (i := 17) (v := ?_) rfl rfl (by kernel_rfl) (by kernel_rfl) (by kernel_rfl) (fun _ _ _ h => h) (Or.inl ⟨by kernel_rfl, ?_⟩) hHeld ?_
          rotate_left
          · intro wz hSw; have k1 : wz.cell? ⟨gb, 1, none⟩ = some (.string xt) := hSw.cell 1; have k2 : wz.cell? ⟨gb, 2, none⟩ = some (.string xk) := hSw.cell 2; have k3 : wz.cell? ⟨gb, 3, none⟩ = some (.string xn) := hSw.cell 3; have k4 : wz.cell? ⟨gb, 4, none⟩ = some (.string xp) := hSw.cell 4; have k5 : wz.cell? ⟨gb, 5, none⟩ = some (.int .i64 xo) := hSw.cell 5; go_simp; try (with_reducible rfl)
          try simp only [Act.put, List.setIfInBounds_toArray, List.set_cons_zero, List.set_cons_succ, List.getElem_toArray, List.getElem_cons_succ, List.getElem_cons_zero]
          refine take_at (some 84) (i := 18) (v := ?_) rfl rfl (by kernel_rfl) (by kernel_rfl) (by kernel_rfl) (fun _ _ _ h => h) (Or.inl ⟨by kernel_rfl, ?_⟩) hHeld ?_
          rotate_left
          · intro wz hSw; have k1 : wz.cell? ⟨gb, 1, none⟩ = some (.string xt) := hSw.cell 1; have k2 : wz.cell? ⟨gb, 2, none⟩ = some (.string xk) := hSw.cell 2; have k3 : wz.cell? ⟨gb, 3, none⟩ = some (.string xn) := hSw.cell 3; have k4 : wz.cell? ⟨gb, 4, none⟩ = some (.string xp) := hSw.cell 4; have k5 : wz.cell? ⟨gb, 5, none⟩ = some (.int .i64 xo) := hSw.cell 5; go_simp; try (with_reducible rfl)
          try simp only [Act.put, List.setIfInBounds_toArray, List.set_cons_zero, List.set_cons_succ, List.getElem_toArray, List.getElem_cons_succ, List.getElem_cons_zero]
          refine take_at (some 85) (i := 19) (v := ?_) rfl rfl (by kernel_rfl) (by kernel_rfl) (by kernel_rfl) (fun _ _ _ h => h) (Or.inl ⟨by kernel_rfl, ?_⟩) hHeld ?_
          rotate_left
          · intro wz hSw; have k1 : wz.cell? ⟨gb, 1, none⟩ = some (.string xt) := hSw.cell 1; have k2 : wz.cell? ⟨gb, 2, none⟩ = some (.string xk) := hSw.cell 2; have k3 : wz.cell? ⟨gb, 3, none⟩ = some (.string xn) := hSw.cell 3; have k4 : wz.cell? ⟨gb, 4, none⟩ = some (.string xp) := hSw.cell 4; have k5 : wz.cell? ⟨gb, 5, none⟩ = some (.int .i64 xo) := hSw.cell 5; go_simp; try (with_reducible rfl)
          try simp only [Act.put, List.setIfInBounds_toArray, List.set_cons_zero, List.set_cons_succ, List.getElem_toArray, List.getElem_cons_succ, List.getElem_cons_zero]
          refine take_at (some 86) (i := 20) (v := ?_) rfl rfl (by kernel_rfl) (by kernel_rfl) (by kernel_rfl) (fun _ _ _ h => h) (Or.inl ⟨by kernel_rfl, ?_⟩) hHeld ?_
          rotate_left
          · intro wz hSw; have k1 : wz.cell? ⟨gb, 1, none⟩ = some (.string xt) := hSw.cell 1; have k2 : wz.cell? ⟨gb, 2, none⟩ = some (.string xk) := hSw.cell 2; have k3 : wz.cell? ⟨gb, 3, none⟩ = some (.string xn) := hSw.cell 3; have k4 : wz.cell? ⟨gb, 4, none⟩ = some (.string xp) := hSw.cell 4; have k5 : wz.cell? ⟨gb, 5, none⟩ = some (.int .i64 xo) := hSw.cell 5; go_simp; try (with_reducible rfl)
          try simp only [Act.put, List.setIfInBounds_toArray, List.set_cons_zero, List.set_cons_succ, List.getElem_toArray, List.getElem_cons_succ, List.getElem_cons_zero]
          refine take_at (some 87) (i := 21) (v := ?_) rfl rfl (by kernel_rfl) (by kernel_rfl) (by kernel_rfl) (fun _ _ _ h => h) (Or.inl ⟨by kernel_rfl, ?_⟩) hHeld ?_
          rotate_left
          · intro wz hSw; have k1 : wz.cell? ⟨gb, 1, none⟩ = some (.string xt) := hSw.cell 1; have k2 : wz.cell? ⟨gb, 2, none⟩ = some (.string xk) := hSw.cell 2; have k3 : wz.cell? ⟨gb, 3, none⟩ = some (.string xn) := hSw.cell 3; have k4 : wz.cell? ⟨gb, 4, none⟩ = some (.string xp) := hSw.cell 4; have k5 : wz.cell? ⟨gb, 5, none⟩ = some (.int .i64 xo) := hSw.cell 5; go_simp; try (with_reducible rfl)
          try simp only [Act.put, List.setIfInBounds_toArray, List.set_cons_zero, List.set_cons_succ, List.getElem_toArray, List.getElem_cons_succ, List.getElem_cons_zero]
          refine take_at (some 88) (i := 22) (v := ?_) rfl rfl (by kernel_rfl) (by kernel_rfl) (by kernel_rfl) (fun _ _ _ h => h) (Or.inl ⟨by kernel_rfl, ?_⟩) hHeld ?_
          rotate_left
          · intro wz hSw; have k1 : wz.cell? ⟨gb, 1, none⟩ = some (.string xt) := hSw.cell 1; have k2 : wz.cell? ⟨gb, 2, none⟩ = some (.string xk) := hSw.cell 2; have k3 : wz.cell? ⟨gb, 3, none⟩ = some (.string xn) := hSw.cell 3; have k4 : wz.cell? ⟨gb, 4, none⟩ = some (.string xp) := hSw.cell 4; have k5 : wz.cell? ⟨gb, 5, none⟩ = some (.int .i64 xo) := hSw.cell 5; go_simp; try (with_reducible rfl)
          try simp only [Act.put, List.setIfInBounds_toArray, List.set_cons_zero, List.set_cons_succ, List.getElem_toArray, List.getElem_cons_succ, List.getElem_cons_zero]
          refine take_at (some 89) (i := 23) (v := ?_) rfl rfl (by kernel_rfl) (by kernel_rfl) (by kernel_rfl) (fun _ _ _ h => h) (Or.inl ⟨by kernel_rfl, ?_⟩) hHeld ?_
          rotate_left
          · intro wz hSw; have k1 : wz.cell? ⟨gb, 1, none⟩ = some (.string xt) := hSw.cell 1; have k2 : wz.cell? ⟨gb, 2, none⟩ = some (.string xk) := hSw.cell 2; have k3 : wz.cell? ⟨gb, 3, none⟩ = some (.string xn) := hSw.cell 3; have k4 : wz.cell? ⟨gb, 4, none⟩ = some (.string xp) := hSw.cell 4; have k5 : wz.cell? ⟨gb, 5, none⟩ = some (.int .i64 xo) := hSw.cell 5; go_simp; try (with_reducible rfl)
          try simp only [Act.put, List.setIfInBounds_toArray, List.set_cons_zero, List.set_cons_succ, List.getElem_toArray, List.getElem_cons_succ, List.getElem_cons_zero]
          refine take_at (some 90) (i := 24) (v := ?_) rfl rfl (by kernel_rfl) (by kernel_rfl) (by kernel_rfl) (fun _ _ _ h => h) (Or.inl ⟨by kernel_rfl, ?_⟩) hHeld ?_
          rotate_left
          · intro wz hSw; have k1 : wz.cell? ⟨gb, 1, none⟩ = some (.string xt) := hSw.cell 1; have k2 : wz.cell? ⟨gb, 2, none⟩ = some (.string xk) := hSw.cell 2; have k3 : wz.cell? ⟨gb, 3, none⟩ = some (.string xn) := hSw.cell 3; have k4 : wz.cell? ⟨gb, 4, none⟩ = some (.string xp) := hSw.cell 4; have k5 : wz.cell? ⟨gb, 5, none⟩ = some (.int .i64 xo) := hSw.cell 5; go_simp; try (with_reducible rfl)
          try simp only [Act.put, List.setIfInBounds_toArray, List.set_cons_zero, List.set_cons_succ, List.getElem_toArray, List.getElem_cons_succ, List.getElem_cons_zero]
          refine take_at (some 92) (i := 26) (v := ?_) rfl rfl (by kernel_rfl) (by kernel_rfl) (by kernel_rfl) (fun _ _ _ h => h) (Or.inl ⟨by kernel_rfl, ?_⟩) hHeld ?_
          rotate_left
          · intro wz hSw; have k1 : wz.cell? ⟨gb, 1, none⟩ = some (.string xt) := hSw.cell 1; have k2 : wz.cell? ⟨gb, 2, none⟩ = some (.string xk) := hSw.cell 2; have k3 : wz.cell? ⟨gb, 3, none⟩ = some (.string xn) := hSw.cell 3; have k4 : wz.cell? ⟨gb, 4, none⟩ = some (.string xp) := hSw.cell 4; have k5 : wz.cell? ⟨gb, 5, none⟩ = some (.int .i64 xo) := hSw.cell 5; go_simp; try (with_reducible rfl)
          try simp only [Act.put, List.setIfInBounds_toArray, List.set_cons_zero, List.set_cons_succ, List.getElem_toArray, List.getElem_cons_succ, List.getElem_cons_zero]
          refine take_at (some 93) (i := 27) (v := ?_) rfl rfl (by kernel_rfl) (by kernel_rfl) (by kernel_rfl) (fun _ _ _ h => h) (Or.inl ⟨by kernel_rfl, ?_⟩) hHeld ?_
          rotate_left
          · intro wz hSw; have k1 : wz.cell? ⟨gb, 1, none⟩ = some (.string xt) := hSw.cell 1; have k2 : wz.cell? ⟨gb, 2, none⟩ = some (.string xk) := hSw.cell 2; have k3 : wz.cell? ⟨gb, 3, none⟩ = some (.string xn) := hSw.cell 3; have k4 : wz.cell? ⟨gb, 4, none⟩ = some (.string xp) := hSw.cell 4; have k5 : wz.cell? ⟨gb, 5, none⟩ = some (.int .i64 xo) := hSw.cell 5; go_simp; try (with_reducible rfl)
          try simp only [Act.put, List.setIfInBounds_toArray, List.set_cons_zero, List.set_cons_succ, List.getElem_toArray, List.getElem_cons_succ, List.getElem_cons_zero]
          refine take_at (some 94) (i := 28) (v := ?_) rfl rfl (by kernel_rfl) (by kernel_rfl) (by kernel_rfl) (fun _ _ _ h => h) (Or.inl ⟨by kernel_rfl, ?_⟩) hHeld ?_
          rotate_left
          · intro wz hSw; have k1 : wz.cell? ⟨gb, 1, none⟩ = some (.string xt) := hSw.cell 1; have k2 : wz.cell? ⟨gb, 2, none⟩ = some (.string xk) := hSw.cell 2; have k3 : wz.cell? ⟨gb, 3, none⟩ = some (.string xn) := hSw.cell 3; have k4 : wz.cell? ⟨gb, 4, none⟩ = some (.string xp) := hSw.cell 4; have k5 : wz.cell? ⟨gb, 5, none⟩ = some (.int .i64 xo) := hSw.cell 5; go_simp; try (with_reducible rfl)
          try simp only [Act.put, List.setIfInBounds_toArray, List.set_cons_zero, List.set_cons_succ, List.getElem_toArray, List.getElem_cons_succ, List.getElem_cons_zero]
          refine take_at (some 95) (i := 29) (v := ?_) rfl rfl (by kernel_rfl) (by kernel_rfl) (by kernel_rfl) (fun _ _ _ h => h) (Or.inl ⟨by kernel_rfl, ?_⟩) hHeld ?_
          rotate_left
          · intro wz hSw; have k1 : wz.cell? ⟨gb, 1, none⟩ = some (.string xt) := hSw.cell 1; have k2 : wz.cell? ⟨gb, 2, none⟩ = some (.string xk) := hSw.cell 2; have k3 : wz.cell? ⟨gb, 3, none⟩ = some (.string xn) := hSw.cell 3; have k4 : wz.cell? ⟨gb, 4, none⟩ = some (.string xp) := hSw.cell 4; have k5 : wz.cell? ⟨gb, 5, none⟩ = some (.int .i64 xo) := hSw.cell 5; go_simp; try (with_reducible rfl)
          try simp only [Act.put, List.setIfInBounds_toArray, List.set_cons_zero, List.set_cons_succ, List.getElem_toArray, List.getElem_cons_succ, List.getElem_cons_zero]
          refine take_at (some 96) (i := 30) (v := ?_) rfl rfl (by kernel_rfl) (by kernel_rfl) (by kernel_rfl) (fun _ _ _ h => h) (Or.inl ⟨by kernel_rfl, ?_⟩) hHeld ?_
          rotate_left
          · intro wz hSw; have k1 : wz.cell? ⟨gb, 1, none⟩ = some (.string xt) := hSw.cell 1; have k2 : wz.cell? ⟨gb, 2, none⟩ = some (.string xk) := hSw.cell 2; have k3 : wz.cell? ⟨gb, 3, none⟩ = some (.string xn) := hSw.cell 3; have k4 : wz.cell? ⟨gb, 4, none⟩ = some (.string xp) := hSw.cell 4; have k5 : wz.cell? ⟨gb, 5, none⟩ = some (.int .i64 xo) := hSw.cell 5; go_simp; try (with_reducible rfl)
          try simp only [Act.put, List.setIfInBounds_toArray, List.set_cons_zero, List.set_cons_succ, List.getElem_toArray, List.getElem_cons_succ, List.getElem_cons_zero]
          refine take_at (some 97) (i := 31) (v := ?_) rfl rfl (by kernel_rfl) (by kernel_rfl) (by kernel_rfl) (fun _ _ _ h => h) (Or.inl ⟨by kernel_rfl, ?_⟩) hHeld ?_
          rotate_left
          · intro wz hSw; have k1 : wz.cell? ⟨gb, 1, none⟩ = some (.string xt) := hSw.cell 1; have k2 : wz.cell? ⟨gb, 2, none⟩ = some (.string xk) := hSw.cell 2; have k3 : wz.cell? ⟨gb, 3, none⟩ = some (.string xn) := hSw.cell 3; have k4 : wz.cell? ⟨gb, 4, none⟩ = some (.string xp) := hSw.cell 4; have k5 : wz.cell? ⟨gb, 5, none⟩ = some (.int .i64 xo) := hSw.cell 5; go_simp; try (with_reducible rfl)
          try simp only [Act.put, List.setIfInBounds_toArray, List.set_cons_zero, List.set_cons_succ, List.getElem_toArray, List.getElem_cons_succ, List.getElem_cons_zero]
          refine take_at (some 98) (i := 32) (v := ?_) rfl rfl (by kernel_rfl) (by kernel_rfl) (by kernel_rfl) (fun _ _ _ h => h) (Or.inl ⟨by kernel_rfl, ?_⟩) hHeld ?_
          rotate_left
          · intro wz hSw; have k1 : wz.cell? ⟨gb, 1, none⟩ = some (.string xt) := hSw.cell 1; have k2 : wz.cell? ⟨gb, 2, none⟩ = some (.string xk) := hSw.cell 2; have k3 : wz.cell? ⟨gb, 3, none⟩ = some (.string xn) := hSw.cell 3; have k4 : wz.cell? ⟨gb, 4, none⟩ = some (.string xp) := hSw.cell 4; have k5 : wz.cell? ⟨gb, 5, none⟩ = some (.int .i64 xo) := hSw.cell 5; go_simp; try (with_reducible rfl)
          try simp only [Act.put, List.setIfInBounds_toArray, List.set_cons_zero, List.set_cons_succ, List.getElem_toArray, List.getElem_cons_succ, List.getElem_cons_zero]
          refine wpAnyH_ready (rs := [25]) (by kernel_rfl) (by simp) (AllReadyH.cons rfl (fun K hK => ?_) AllReadyH.nil)
          rw [if_pos (by kernel_rfl)]
          go_simp
          refine (H3.out _ hy2).mono ?_
          rintro e y3 ⟨rfl, hy3⟩
          try dsimp only
          refine hK.out _ _ (hy3.head) (fun hHeld => ?_)
          try simp only [Act.put, List.setIfInBounds_toArray, List.set_cons_zero, List.set_cons_succ, List.getElem_toArray, List.getElem_cons_succ, List.getElem_cons_zero]
          refine wpAnyH_ready (rs := [33]) (by kernel_rfl) (by simp) (AllReadyH.cons rfl (fun K hK => ?_) AllReadyH.nil)
          rw [if_pos (by kernel_rfl)]
          go_simp
          refine (H4.out _ hy3).mono ?_
          rintro e y4 ⟨rfl, hy4⟩
          try dsimp only
          refine hK.out _ _ (hy4.head) (fun hHeld => ?_)
          try simp only [Act.put, List.setIfInBounds_toArray, List.set_cons_zero, List.set_cons_succ, List.getElem_toArray, List.getElem_cons_succ, List.getElem_cons_zero]
          refine take_at (some 100) (i := 34) (v := ?_) rfl rfl (by kernel_rfl) (by kernel_rfl) (by kernel_rfl) (fun _ _ _ h => h) (Or.inl ⟨by kernel_rfl, ?_⟩) hHeld ?_
          rotate_left
          · intro wz hSw; have k1 : wz.cell? ⟨gb, 1, none⟩ = some (.string xt) := hSw.cell 1; have k2 : wz.cell? ⟨gb, 2, none⟩ = some (.string xk) := hSw.cell 2; have k3 : wz.cell? ⟨gb, 3, none⟩ = some (.string xn) := hSw.cell 3; have k4 : wz.cell? ⟨gb, 4, none⟩ = some (.string xp) := hSw.cell 4; have k5 : wz.cell? ⟨gb, 5, none⟩ = some (.int .i64 xo) := hSw.cell 5; go_simp; try (with_reducible rfl)
          try simp only [Act.put, List.setIfInBounds_toArray, List.set_cons_zero, List.set_cons_succ, List.getElem_toArray, List.getElem_cons_succ, List.getElem_cons_zero]
          refine take_at (some 101) (i := 35) (v := ?_) rfl rfl (by kernel_rfl) (by kernel_rfl) (by kernel_rfl) (fun _ _ _ h => h) (Or.inl ⟨by kernel_rfl, ?_⟩) hHeld ?_
          rotate_left
          · intro wz hSw; have k1 : wz.cell? ⟨gb, 1, none⟩ = some (.string xt) := hSw.cell 1; have k2 : wz.cell? ⟨gb, 2, none⟩ = some (.string xk) := hSw.cell 2; have k3 : wz.cell? ⟨gb, 3, none⟩ = some (.string xn) := hSw.cell 3; have k4 : wz.cell? ⟨gb, 4, none⟩ = some (.string xp) := hSw.cell 4; have k5 : wz.cell? ⟨gb, 5, none⟩ = some (.int .i64 xo) := hSw.cell 5; go_simp; try (with_reducible rfl)
          try simp only [Act.put, List.setIfInBounds_toArray, List.set_cons_zero, List.set_cons_succ, List.getElem_toArray, List.getElem_cons_succ, List.getElem_cons_zero]
          refine take_at (some 102) (i := 36) (v := ?_) rfl rfl (by kernel_rfl) (by kernel_rfl) (by kernel_rfl) (fun _ _ _ h => h) (Or.inl ⟨by kernel_rfl, ?_⟩) hHeld ?_
          rotate_left
          · intro wz hSw; have k1 : wz.cell? ⟨gb, 1, none⟩ = some (.string xt) := hSw.cell 1; have k2 : wz.cell? ⟨gb, 2, none⟩ = some (.string xk) := hSw.cell 2; have k3 : wz.cell? ⟨gb, 3, none⟩ = some (.string xn) := hSw.cell 3; have k4 : wz.cell? ⟨gb, 4, none⟩ = some (.string xp) := hSw.cell 4; have k5 : wz.cell? ⟨gb, 5, none⟩ = some (.int .i64 xo) := hSw.cell 5; go_simp; try (with_reducible rfl)
          try simp only [Act.put, List.setIfInBounds_toArray, List.set_cons_zero, List.set_cons_succ, List.getElem_toArray, List.getElem_cons_succ, List.getElem_cons_zero]
          refine take_at (some 103) (i := 37) (v := ?_) rfl rfl (by kernel_rfl) (by kernel_rfl) (by kernel_rfl) (fun _ _ _ h => h) (Or.inl ⟨by kernel_rfl, ?_⟩) hHeld ?_
          rotate_left
          · intro wz hSw; have k1 : wz.cell? ⟨gb, 1, none⟩ = some (.string xt) := hSw.cell 1; have k2 : wz.cell? ⟨gb, 2, none⟩ = some (.string xk) := hSw.cell 2; have k3 : wz.cell? ⟨gb, 3, none⟩ = some (.string xn) := hSw.cell 3; have k4 : wz.cell? ⟨gb, 4, none⟩ = some (.string xp) := hSw.cell 4; have k5 : wz.cell? ⟨gb, 5, none⟩ = some (.int .i64 xo) := hSw.cell 5; go_simp; try (with_reducible rfl)
          try simp only [Act.put, List.setIfInBounds_toArray, List.set_cons_zero, List.set_cons_succ, List.getElem_toArray, List.getElem_cons_succ, List.getElem_cons_zero]
          refine take_at (some 104) (i := 38) (v := ?_) rfl rfl (by kernel_rfl) (by kernel_rfl) (by kernel_rfl) (fun _ _ _ h => h) (Or.inl ⟨by kernel_rfl, ?_⟩) hHeld ?_
          rotate_left
          · intro wz hSw; have k1 : wz.cell? ⟨gb, 1, none⟩ = some (.string xt) := hSw.cell 1; have k2 : wz.cell? ⟨gb, 2, none⟩ = some (.string xk) := hSw.cell 2; have k3 : wz.cell? ⟨gb, 3, none⟩ = some (.string xn) := hSw.cell 3; have k4 : wz.cell? ⟨gb, 4, none⟩ = some (.string xp) := hSw.cell 4; have k5 : wz.cell? ⟨gb, 5, none⟩ = some (.int .i64 xo) := hSw.cell 5; go_simp; try (with_reducible rfl)
          try simp only [Act.put, List.setIfInBounds_toArray, List.set_cons_zero, List.set_cons_succ, List.getElem_toArray, List.getElem_cons_succ, List.getElem_cons_zero]
          refine take_at (some 105) (i := 39) (v := ?_) rfl rfl (by kernel_rfl) (by kernel_rfl) (by kernel_rfl) (fun _ _ _ h => h) (Or.inl ⟨by kernel_rfl, ?_⟩) hHeld ?_
          rotate_left
          · intro wz hSw; have k1 : wz.cell? ⟨gb, 1, none⟩ = some (.string xt) := hSw.cell 1; have k2 : wz.cell? ⟨gb, 2, none⟩ = some (.string xk) := hSw.cell 2; have k3 : wz.cell? ⟨gb, 3, none⟩ = some (.string xn) := hSw.cell 3; have k4 : wz.cell? ⟨gb, 4, none⟩ = some (.string xp) := hSw.cell 4; have k5 : wz.cell? ⟨gb, 5, none⟩ = some (.int .i64 xo) := hSw.cell 5; go_simp; try (with_reducible rfl)
          try simp only [Act.put, List.setIfInBounds_toArray, List.set_cons_zero, List.set_cons_succ, List.getElem_toArray, List.getElem_cons_succ, List.getElem_cons_zero]
          refine take_at (some 106) (i := 40) (v := ?_) rfl rfl (by kernel_rfl) (by kernel_rfl) (by kernel_rfl) (fun _ _ _ h => h) (Or.inl ⟨by kernel_rfl, ?_⟩) hHeld ?_
          rotate_left
          · intro wz hSw; have k1 : wz.cell? ⟨gb, 1, none⟩ = some (.string xt) := hSw.cell 1; have k2 : wz.cell? ⟨gb, 2, none⟩ = some (.string xk) := hSw.cell 2; have k3 : wz.cell? ⟨gb, 3, none⟩ = some (.string xn) := hSw.cell 3; have k4 : wz.cell? ⟨gb, 4, none⟩ = some (.string xp) := hSw.cell 4; have k5 : wz.cell? ⟨gb, 5, none⟩ = some (.int .i64 xo) := hSw.cell 5; go_simp; try (with_reducible rfl)
          try simp only [Act.put, List.setIfInBounds_toArray, List.set_cons_zero, List.set_cons_succ, List.getElem_toArray, List.getElem_cons_succ, List.getElem_cons_zero]
          refine take_at (some 107) (i := 41) (v := ?_) rfl rfl (by kernel_rfl) (by kernel_rfl) (by kernel_rfl) (fun _ _ _ h => h) (Or.inl ⟨by kernel_rfl, ?_⟩) hHeld ?_
          rotate_left
          · intro wz hSw; have k1 : wz.cell? ⟨gb, 1, none⟩ = some (.string xt) := hSw.cell 1; have k2 : wz.cell? ⟨gb, 2, none⟩ = some (.string xk) := hSw.cell 2; have k3 : wz.cell? ⟨gb, 3, none⟩ = some (.string xn) := hSw.cell 3; have k4 : wz.cell? ⟨gb, 4, none⟩ = some (.string xp) := hSw.cell 4; have k5 : wz.cell? ⟨gb, 5, none⟩ = some (.int .i64 xo) := hSw.cell 5; go_simp; try (with_reducible rfl)
          try simp only [Act.put, List.setIfInBounds_toArray, List.set_cons_zero, List.set_cons_succ, List.getElem_toArray, List.getElem_cons_succ, List.getElem_cons_zero]
          refine take_at (some 108) (i := 42) (v := ?_) rfl rfl (by kernel_rfl) (by kernel_rfl) (by kernel_rfl) (fun _ _ _ h => h) (Or.inl ⟨by kernel_rfl, ?_⟩) hHeld ?_
          rotate_left
          · intro wz hSw; have k1 : wz.cell? ⟨gb, 1, none⟩ = some (.string xt) := hSw.cell 1; have k2 : wz.cell? ⟨gb, 2, none⟩ = some (.string xk) := hSw.cell 2; have k3 : wz.cell? ⟨gb, 3, none⟩ = some (.string xn) := hSw.cell 3; have k4 : wz.cell? ⟨gb, 4, none⟩ = some (.string xp) := hSw.cell 4; have k5 : wz.cell? ⟨gb, 5, none⟩ = some (.int .i64 xo) := hSw.cell 5; go_simp; try (with_reducible rfl)
          try simp only [Act.put, List.setIfInBounds_toArray, List.set_cons_zero, List.set_cons_succ, List.getElem_toArray, List.getElem_cons_succ, List.getElem_cons_zero]
          refine take_at (some 109) (i := 43) (v := ?_) rfl rfl (by kernel_rfl) (by kernel_rfl) (by kernel_rfl) (fun _ _ _ h => h) (Or.inl ⟨by kernel_rfl, ?_⟩) hHeld ?_
          rotate_left
          · intro wz hSw; have k1 : wz.cell? ⟨gb, 1, none⟩ = some (.string xt) := hSw.cell 1; have k2 : wz.cell? ⟨gb, 2, none⟩ = some (.string xk) := hSw.cell 2; have k3 : wz.cell? ⟨gb, 3, none⟩ = some (.string xn) := hSw.cell 3; have k4 : wz.cell? ⟨gb, 4, none⟩ = some (.string xp) := hSw.cell 4; have k5 : wz.cell? ⟨gb, 5, none⟩ = some (.int .i64 xo) := hSw.cell 5; go_simp; try (with_reducible rfl)
          try simp only [Act.put, List.setIfInBounds_toArray, List.set_cons_zero, List.set_cons_succ, List.getElem_toArray, List.getElem_cons_succ, List.getElem_cons_zero]
          refine take_at (some 110) (i := 44) (v := ?_) rfl rfl (by kernel_rfl) (by kernel_rfl) (by kernel_rfl) (fun _ _ _ h => h) (Or.inl ⟨by kernel_rfl, ?_⟩) hHeld ?_
          rotate_left
          · intro wz hSw; have k1 : wz.cell? ⟨gb, 1, none⟩ = some (.string xt) := hSw.cell 1; have k2 : wz.cell? ⟨gb, 2, none⟩ = some (.string xk) := hSw.cell 2; have k3 : wz.cell? ⟨gb, 3, none⟩ = some (.string xn) := hSw.cell 3; have k4 : wz.cell? ⟨gb, 4, none⟩ = some (.string xp) := hSw.cell 4; have k5 : wz.cell? ⟨gb, 5, none⟩ = some (.int .i64 xo) := hSw.cell 5; go_simp; try (with_reducible rfl)
          try simp only [Act.put, List.setIfInBounds_toArray, List.set_cons_zero, List.set_cons_succ, List.getElem_toArray, List.getElem_cons_succ, List.getElem_cons_zero]
          refine take_at (some 111) (i := 45) (v := ?_) rfl rfl (by kernel_rfl) (by kernel_rfl) (by kernel_rfl) (fun _ _ _ h => h) (Or.inl ⟨by kernel_rfl, ?_⟩) hHeld ?_
          rotate_left
          · intro wz hSw; have k1 : wz.cell? ⟨gb, 1, none⟩ = some (.string xt) := hSw.cell 1; have k2 : wz.cell? ⟨gb, 2, none⟩ = some (.string xk) := hSw.cell 2; have k3 : wz.cell? ⟨gb, 3, none⟩ = some (.string xn) := hSw.cell 3; have k4 : wz.cell? ⟨gb, 4, none⟩ = some (.string xp) := hSw.cell 4; have k5 : wz.cell? ⟨gb, 5, none⟩ = some (.int .i64 xo) := hSw.cell 5; go_simp; try (with_reducible rfl)
          try simp only [Act.put, List.setIfInBounds_toArray, List.set_cons_zero, List.set_cons_succ, List.getElem_toArray, List.getElem_cons_succ, List.getElem_cons_zero]
          refine take_at (some 112) (i := 46) (v := ?_) rfl rfl (by kernel_rfl) (by kernel_rfl) (by kernel_rfl) (fun _ _ _ h => h) (Or.inl ⟨by kernel_rfl, ?_⟩) hHeld ?_
          rotate_left
          · intro wz hSw; have k1 : wz.cell? ⟨gb, 1, none⟩ = some (.string xt) := hSw.cell 1; have k2 : wz.cell? ⟨gb, 2, none⟩ = some (.string xk) := hSw.cell 2; have k3 : wz.cell? ⟨gb, 3, none⟩ = some (.string xn) := hSw.cell 3; have k4 : wz.cell? ⟨gb, 4, none⟩ = some (.string xp) := hSw.cell 4; have k5 : wz.cell? ⟨gb, 5, none⟩ = some (.int .i64 xo) := hSw.cell 5; go_simp; try (with_reducible rfl)
          try simp only [Act.put, List.setIfInBounds_toArray, List.set_cons_zero, List.set_cons_succ, List.getElem_toArray, List.getElem_cons_succ, List.getElem_cons_zero]
          refine take_at (some 113) (i := 47) (v := ?_) rfl rfl (by kernel_rfl) (by kernel_rfl) (by kernel_rfl) (fun _ _ _ h => h) (Or.inl ⟨by kernel_rfl, ?_⟩) hHeld ?_
          rotate_left
          · intro wz hSw; have k1 : wz.cell? ⟨gb, 1, none⟩ = some (.string xt) := hSw.cell 1; have k2 : wz.cell? ⟨gb, 2, none⟩ = some (.string xk) := hSw.cell 2; have k3 : wz.cell? ⟨gb, 3, none⟩ = some (.string xn) := hSw.cell 3; have k4 : wz.cell? ⟨gb, 4, none⟩ = some (.string xp) := hSw.cell 4; have k5 : wz.cell? ⟨gb, 5, none⟩ = some (.int .i64 xo) := hSw.cell 5; go_simp; try (with_reducible rfl)
          try simp only [Act.put, List.setIfInBounds_toArray, List.set_cons_zero, List.set_cons_succ, List.getElem_toArray, List.getElem_cons_succ, List.getElem_cons_zero]
          refine take_at (some 115) (i := 49) (v := ?_) rfl rfl (by kernel_rfl) (by kernel_rfl) (by kernel_rfl) (fun _ _ _ h => h) (Or.inl ⟨by kernel_rfl, ?_⟩) hHeld ?_
          rotate_left
          · intro wz hSw; have k1 : wz.cell? ⟨gb, 1, none⟩ = some (.string xt) := hSw.cell 1; have k2 : wz.cell? ⟨gb, 2, none⟩ = some (.string xk) := hSw.cell 2; have k3 : wz.cell? ⟨gb, 3, none⟩ = some (.string xn) := hSw.cell 3; have k4 : wz.cell? ⟨gb, 4, none⟩ = some (.string xp) := hSw.cell 4; have k5 : wz.cell? ⟨gb, 5, none⟩ = some (.int .i64 xo) := hSw.cell 5; go_simp; try (with_reducible rfl)
          try simp only [Act.put, List.setIfInBounds_toArray, List.set_cons_zero, List.set_cons_succ, List.getElem_toArray, List.getElem_cons_succ, List.getElem_cons_zero]
          refine take_at (some 116) (i := 50) (v := ?_) rfl rfl (by kernel_rfl) (by kernel_rfl) (by kernel_rfl) (fun _ _ _ h => h) (Or.inl ⟨by kernel_rfl, ?_⟩) hHeld ?_
          rotate_left
          · intro wz hSw; have k1 : wz.cell? ⟨gb, 1, none⟩ = some (.string xt) := hSw.cell 1; have k2 : wz.cell? ⟨gb, 2, none⟩ = some (.string xk) := hSw.cell 2; have k3 : wz.cell? ⟨gb, 3, none⟩ = some (.string xn) := hSw.cell 3; have k4 : wz.cell? ⟨gb, 4, none⟩ = some (.string xp) := hSw.cell 4; have k5 : wz.cell? ⟨gb, 5, none⟩ = some (.int .i64 xo) := hSw.cell 5; go_simp; try (with_reducible rfl)
          try simp only [Act.put, List.setIfInBounds_toArray, List.set_cons_zero, List.set_cons_succ, List.getElem_toArray, List.getElem_cons_succ, List.getElem_cons_zero]
          refine take_at (some 117) (i := 51) (v := ?_) rfl rfl (by kernel_rfl) (by kernel_rfl) (by kernel_rfl) (fun _ _ _ h => h) (Or.inl ⟨by kernel_rfl, ?_⟩) hHeld ?_
          rotate_left
          · intro wz hSw; have k1 : wz.cell? ⟨gb, 1, none⟩ = some (.string xt) := hSw.cell 1; have k2 : wz.cell? ⟨gb, 2, none⟩ = some (.string xk) := hSw.cell 2; have k3 : wz.cell? ⟨gb, 3, none⟩ = some (.string xn) := hSw.cell 3; have k4 : wz.cell? ⟨gb, 4, none⟩ = some (.string xp) := hSw.cell 4; have k5 : wz.cell? ⟨gb, 5, none⟩ = some (.int .i64 xo) := hSw.cell 5; go_simp; try (with_reducible rfl)
          try simp only [Act.put, List.setIfInBounds_toArray, List.set_cons_zero, List.set_cons_succ, List.getElem_toArray, List.getElem_cons_succ, List.getElem_cons_zero]
          refine take_at (some 118) (i := 52) (v := ?_) rfl rfl (by kernel_rfl) (by kernel_rfl) (by kernel_rfl) (fun _ _ _ h => h) (Or.inl ⟨by kernel_rfl, ?_⟩) hHeld ?_
          rotate_left
          · intro wz hSw; have k1 : wz.cell? ⟨gb, 1, none⟩ = some (.string xt) := hSw.cell 1; have k2 : wz.cell? ⟨gb, 2, none⟩ = some (.string xk) := hSw.cell 2; have k3 : wz.cell? ⟨gb, 3, none⟩ = some (.string xn) := hSw.cell 3; have k4 : wz.cell? ⟨gb, 4, none⟩ = some (.string xp) := hSw.cell 4; have k5 : wz.cell? ⟨gb, 5, none⟩ = some (.int .i64 xo) := hSw.cell 5; go_simp; try (with_reducible rfl)
          try simp only [Act.put, List.setIfInBounds_toArray, List.set_cons_zero, List.set_cons_succ, List.getElem_toArray, List.getElem_cons_succ, List.getElem_cons_zero]
          refine take_at (some 119) (i := 53) (v := ?_) rfl rfl (by kernel_rfl) (by kernel_rfl) (by kernel_rfl) (fun _ _ _ h => h) (Or.inl ⟨by kernel_rfl, ?_⟩) hHeld ?_
          rotate_left
          · intro wz hSw; have k1 : wz.cell? ⟨gb, 1, none⟩ = some (.string xt) := hSw.cell 1; have k2 : wz.cell? ⟨gb, 2, none⟩ = some (.string xk) := hSw.cell 2; have k3 : wz.cell? ⟨gb, 3, none⟩ = some (.string xn) := hSw.cell 3; have k4 : wz.cell? ⟨gb, 4, none⟩ = some (.string xp) := hSw.cell 4; have k5 : wz.cell? ⟨gb, 5, none⟩ = some (.int .i64 xo) := hSw.cell 5; go_simp; try (with_reducible rfl)
          try simp only [Act.put, List.setIfInBounds_toArray, List.set_cons_zero, List.set_cons_succ, List.getElem_toArray, List.getElem_cons_succ, List.getElem_cons_zero]
          refine take_at (some 120) (i := 54) (v := ?_) rfl rfl (by kernel_rfl) (by kernel_rfl) (by kernel_rfl) (fun _ _ _ h => h) (Or.inl ⟨by kernel_rfl, ?_⟩) hHeld ?_
          rotate_left
          · intro wz hSw; have k1 : wz.cell? ⟨gb, 1, none⟩ = some (.string xt) := hSw.cell 1; have k2 : wz.cell? ⟨gb, 2, none⟩ = some (.string xk) := hSw.cell 2; have k3 : wz.cell? ⟨gb, 3, none⟩ = some (.string xn) := hSw.cell 3; have k4 : wz.cell? ⟨gb, 4, none⟩ = some (.string xp) := hSw.cell 4; have k5 : wz.cell? ⟨gb, 5, none⟩ = some (.int .i64 xo) := hSw.cell 5; go_simp; try (with_reducible rfl)
          try simp only [Act.put, List.setIfInBounds_toArray, List.set_cons_zero, List.set_cons_succ, List.getElem_toArray, List.getElem_cons_succ, List.getElem_cons_zero]
          refine take_at (some 121) (i := 55) (v := ?_) rfl rfl (by kernel_rfl) (by kernel_rfl) (by kernel_rfl) (fun _ _ _ h => h) (Or.inl ⟨by kernel_rfl, ?_⟩) hHeld ?_
          rotate_left
          · intro wz hSw; have k1 : wz.cell? ⟨gb, 1, none⟩ = some (.string xt) := hSw.cell 1; have k2 : wz.cell? ⟨gb, 2, none⟩ = some (.string xk) := hSw.cell 2; have k3 : wz.cell? ⟨gb, 3, none⟩ = some (.string xn) := hSw.cell 3; have k4 : wz.cell? ⟨gb, 4, none⟩ = some (.string xp) := hSw.cell 4; have k5 : wz.cell? ⟨gb, 5, none⟩ = some (.int .i64 xo) := hSw.cell 5; go_simp; try (with_reducible rfl)
          try simp only [Act.put, List.setIfInBounds_toArray, List.set_cons_zero, List.set_cons_succ, List.getElem_toArray, List.getElem_cons_succ, List.getElem_cons_zero]
          refine take_at (some 122) (i := 56) (v := ?_) rfl rfl (by kernel_rfl) (by kernel_rfl) (by kernel_rfl) (fun _ _ _ h => h) (Or.inl ⟨by kernel_rfl, ?_⟩) hHeld ?_
          rotate_left
          · intro wz hSw; have k1 : wz.cell? ⟨gb, 1, none⟩ = some (.string xt) := hSw.cell 1; have k2 : wz.cell? ⟨gb, 2, none⟩ = some (.string xk) := hSw.cell 2; have k3 : wz.cell? ⟨gb, 3, none⟩ = some (.string xn) := hSw.cell 3; have k4 : wz.cell? ⟨gb, 4, none⟩ = some (.string xp) := hSw.cell 4; have k5 : wz.cell? ⟨gb, 5, none⟩ = some (.int .i64 xo) := hSw.cell 5; go_simp; try (with_reducible rfl)
          try simp only [Act.put, List.setIfInBounds_toArray, List.set_cons_zero, List.set_cons_succ, List.getElem_toArray, List.getElem_cons_succ, List.getElem_cons_zero]
          refine take_at (some 123) (i := 57) (v := ?_) rfl rfl (by kernel_rfl) (by kernel_rfl) (by kernel_rfl) (fun _ _ _ h => h) (Or.inl ⟨by kernel_rfl, ?_⟩) hHeld ?_
          rotate_left
          · intro wz hSw; have k1 : wz.cell? ⟨gb, 1, none⟩ = some (.string xt) := hSw.cell 1; have k2 : wz.cell? ⟨gb, 2, none⟩ = some (.string xk) := hSw.cell 2; have k3 : wz.cell? ⟨gb, 3, none⟩ = some (.string xn) := hSw.cell 3; have k4 : wz.cell? ⟨gb, 4, none⟩ = some (.string xp) := hSw.cell 4; have k5 : wz.cell? ⟨gb, 5, none⟩ = some (.int .i64 xo) := hSw.cell 5; go_simp; try (with_reducible rfl)
          try simp only [Act.put, List.setIfInBounds_toArray, List.set_cons_zero, List.set_cons_succ, List.getElem_toArray, List.getElem_cons_succ, List.getElem_cons_zero]
          refine take_at (some 124) (i := 58) (v := ?_) rfl rfl (by kernel_rfl) (by kernel_rfl) (by kernel_rfl) (fun _ _ _ h => h) (Or.inl ⟨by kernel_rfl, ?_⟩) hHeld ?_
          rotate_left
          · intro wz hSw; have k1 : wz.cell? ⟨gb, 1, none⟩ = some (.string xt) := hSw.cell 1; have k2 : wz.cell? ⟨gb, 2, none⟩ = some (.string xk) := hSw.cell 2; have k3 : wz.cell? ⟨gb, 3, none⟩ = some (.string xn) := hSw.cell 3; have k4 : wz.cell? ⟨gb, 4, none⟩ = some (.string xp) := hSw.cell 4; have k5 : wz.cell? ⟨gb, 5, none⟩ = some (.int .i64 xo) := hSw.cell 5; go_simp; try (with_reducible rfl)
          try simp only [Act.put, List.setIfInBounds_toArray, List.set_cons_zero, List.set_cons_succ, List.getElem_toArray, List.getElem_cons_succ, List.getElem_cons_zero]
          refine take_at (some 125) (i := 59) (v := ?_) rfl rfl (by kernel_rfl) (by kernel_rfl) (by kernel_rfl) (fun _ _ _ h => h) (Or.inl ⟨by kernel_rfl, ?_⟩) hHeld ?_
          rotate_left
          · intro wz hSw; have k1 : wz.cell? ⟨gb, 1, none⟩ = some (.string xt) := hSw.cell 1; have k2 : wz.cell? ⟨gb, 2, none⟩ = some (.string xk) := hSw.cell 2; have k3 : wz.cell? ⟨gb, 3, none⟩ = some (.string xn) := hSw.cell 3; have k4 : wz.cell? ⟨gb, 4, none⟩ = some (.string xp) := hSw.cell 4; have k5 : wz.cell? ⟨gb, 5, none⟩ = some (.int .i64 xo) := hSw.cell 5; go_simp; try (with_reducible rfl)
          try simp only [Act.put, List.setIfInBounds_toArray, List.set_cons_zero, List.set_cons_succ, List.getElem_toArray, List.getElem_cons_succ, List.getElem_cons_zero]
          refine wpAnyH_ready (rs := [48]) (by kernel_rfl) (by simp) (AllReadyH.cons rfl (fun K hK => ?_) AllReadyH.nil)
          rw [if_pos (by kernel_rfl)]
          go_simp
          refine (H5.out _ hy4).mono ?_
          rintro e y5 ⟨rfl, hy5⟩
          try dsimp only
          refine hK.out _ _ (hy5.head) (fun hHeld => ?_)
          try simp only [Act.put, List.setIfInBounds_toArray, List.set_cons_zero, List.set_cons_succ, List.getElem_toArray, List.getElem_cons_succ, List.getElem_cons_zero]
          refine wpAnyH_ready (rs := [60]) (by kernel_rfl) (by simp) (AllReadyH.cons rfl (fun K hK => ?_) AllReadyH.nil)
          rw [if_pos (by kernel_rfl)]
          go_simp
          refine (H6.out _ hy5).mono ?_
          rintro e y6 ⟨rfl, hy6⟩
          try dsimp only
          refine hK.out _ _ (hy6.head) (fun hHeld => ?_)
          try simp only [Act.put, List.setIfInBounds_toArray, List.set_cons_zero, List.set_cons_succ, List.getElem_toArray, List.getElem_cons_succ, List.getElem_cons_zero]
          refine take_at (some 127) (i := 61) (v := ?_) rfl rfl (by kernel_rfl) (by kernel_rfl) (by kernel_rfl) (fun _ _ _ h => h) (Or.inl ⟨by kernel_rfl, ?_⟩) hHeld ?_
          rotate_left
          · intro wz hSw; go_simp; try (with_reducible rfl)
          try simp only [Act.put, List.setIfInBounds_toArray, List.set_cons_zero, List.set_cons_succ, List.getElem_toArray, List.getElem_cons_succ, List.getElem_cons_zero]
          refine take_at (some 128) (i := 62) (v := ?_) rfl rfl (by kernel_rfl) (by kernel_rfl) (by kernel_rfl) (fun _ _ _ h => h) (Or.inl ⟨by kernel_rfl, ?_⟩) hHeld ?_
          rotate_left
          · intro wz hSw; go_simp; try (with_reducible rfl)
          try simp only [Act.put, List.setIfInBounds_toArray, List.set_cons_zero, List.set_cons_succ, List.getElem_toArray, List.getElem_cons_succ, List.getElem_cons_zero]
          refine wpAnyH_done (by kernel_rfl) ?_ _
          refine gen_qH (fun y => Pl ub wb mb rb xr g P [(gb, 34, #[.int .i64 xw, .string xt, .string xk, .string xn, .string xp, .int .i64 xo])] y) hy6 (fun y hy => ?_)
          have HGE := Lib.hid (hy.less (L' := []) (fun b hb => by cases hb))
          clear hy hHeld
          go_wp2
          go_roundw
          case rel => exact ⟨i + 1, g, P, by omega, by go_num, Lib.hid ⟨HL8.out.1, HL8.out.2.1⟩, HQ, HGE⟩
          case measure => simp [intOf]; omega
      · have hi2 : ¬ (i : Int) < (nl : Int) := by omega
        go_wp2
        go_ret
        exact ⟨rfl, HPB.out.low HV.out⟩
end Go.Proofs.YtijboiepockmjaaDoor
