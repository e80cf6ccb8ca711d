/- The document's own book of tickets: Issue: its contract. (Written by gen_tcr4.py.) -/
import Derived.Test.YtinbegnojfpeiaaDoorTcR3
import Derived.Test.YtinbegnojfpeiaaDoorOpAt
import Derived.Test.YtinbegnojfpeiaaDoorG18
import Derived.Test.YtinbegnojfpeiaaDoorG19
import Derived.Test.YtinbegnojfpeiaaDoorG8
import Derived.Test.YtinbegnojfpeiaaDoorG14
import Derived.Test.YtinbegnojfpeiaaDoorG6
namespace Go.Proofs.YtinbegnojfpeiaaDoor
set_option linter.unusedVariables false
set_option maxRecDepth 100000
set_option linter.unusedSimpArgs false
open Go.RowKit

section
variable {W u u' : World} {H H' : List Nat} {db : Nat} {key : ByteArray} {b b' : Bt}
theorem ow_db {v : World} {B n : Nat} {A : Option Addr} {c : Nat} {l : List Tk5} {se : Int} (h : Ow 62 5 tkc v B A c l) (hk : Bk v db 44 #[.string key, .int .i64 se, .slice A n c]) (i : Nat) (m : Value) : Ow 62 5 tkc (v.setCell ⟨db, i, none⟩ m) B A c l := by
  refine ⟨h.1, ?_⟩
  rcases h.2 with hn | ⟨g, cap, cur, hv, hg, hh, r⟩
  · exact .inl hn
  · refine .inr ⟨g, cap, cur, hv, hg, (show Bk v g _ _ from hh).far (fun e => ?_) _, r⟩
    have hh2 : v.heap[g]? = _ := hh
    have h1' : v.heap[db]? = some (.cells #[.string key, .int .i64 se, .slice A n c] 44 (0, 0)) := hk
    rw [show g = db from e, h1'] at hh2
    injection hh2 with hh2
    injection hh2 with _ hh2
    exact absurd hh2 (by decide)
theorem dt_se {v : World} (h : Dt W v H db key b) (m : Int) : Dt W (v.setCell ⟨db, 1, none⟩ (.int .i64 m)) H db key ⟨m, b.l⟩ := by
  obtain ⟨A, c, h1, h2, h3⟩ := h.ex
  have k : Ke [db] v (v.setCell ⟨db, 1, none⟩ (.int .i64 m)) := (Ke.refl [db] v).set (p := ⟨db, 1, none⟩) (List.mem_singleton.2 rfl) _
  exact ⟨⟨A, c, h1.set 1 _, ow_db h2 h1 1 _, h3⟩, h.db, h.l.trans (k.below h.l.size (fun x hx => by rw [List.mem_singleton.1 hx]; exact h.lo _ h.db)), h.lo, fun y hy => Nat.lt_of_lt_of_le (h.hi y hy) k.size⟩
theorem t_old {v w3 w4 : World} (h : Dt W v H db key b) {n c : Nat} {A : Option Addr} (hn : b.l.length = n) (hd : Bk v db 44 #[.string key, .int .i64 b.se, .slice A n c]) (ho : Ow 62 5 tkc v W.heap.size A c b.l) (hb : Below v.heap.size v w3) (hg : w3.grownBy w4 (Value.slice A n c).ownBlock) :
    Bk w4 db 44 #[.string key, .int .i64 b.se, .slice A n c] ∧ ∃ K, Ke K v w4 ∧ ∀ y ∈ K, y ∈ H ∧ ∃ cs, Bk v y 62 cs := by
  obtain ⟨A', c', h1, _, h3⟩ := h.ex
  have e1 : (Value.slice A n c) = .slice A' b.l.length c' := by
    have x := hd.cell 2
    have y := h1.cell 2
    rw [x] at y
    simpa using y
  rw [← e1] at h3
  have hK : ∃ K, Ke K v w4 ∧ ∀ y ∈ K, y ∈ H ∧ ∃ cs, Bk v y 62 cs := by
    have hk0 : Ke [] v w3 := Ke.of hb
    cases hown : (Value.slice A n c).ownBlock with
    | none => rw [hown] at hg; exact ⟨[], hk0.trans (Ke.grown0 hg), fun y hy => by cases hy⟩
    | some g0 =>
      rw [hown] at hg
      refine ⟨[g0], hk0.nil.trans (Ke.grown hg), fun y hy => ?_⟩
      rw [List.mem_singleton.1 hy]
      have h4 := h3 g0 hown
      rw [← hn] at hown
      obtain ⟨_, _, cs, hc⟩ := Ow.block ho b.l.length g0 hown
      exact ⟨h4, cs, hc⟩
  refine ⟨?_, hK⟩
  obtain ⟨K, k1, k2⟩ := hK
  refine hd.ke k1 fun hx => ?_
  obtain ⟨_, cs, hc⟩ := k2 db hx
  have hc2 : v.heap[db]? = _ := hc
  rw [show v.heap[db]? = _ from hd] at hc2
  injection hc2 with hc2
  injection hc2 with _ hc2
  exact absurd hc2 (by decide)
/-- The book's row is one longer. -/
theorem t_put {v w3 w4 : World} (h : Dt W v H db key b) {n c g4 c4 : Nat} {A : Option Addr} {x : Tk5} (hn : b.l.length = n) (hd : Bk v db 44 #[.string key, .int .i64 b.se, .slice A n c]) (ho : Ow 62 5 tkc v W.heap.size A c b.l) (hb : Below v.heap.size v w3) (hg : w3.grownBy w4 (Value.slice A n c).ownBlock)
    (ho4 : Ow 62 5 tkc w4 W.heap.size (some ⟨g4, 0, none⟩) c4 (b.l ++ [x])) (hat : (Value.slice A n c).ownBlock = some g4 ∨ g4 = w3.heap.size) :
    ∃ H', Dt W (w4.setCell ⟨db, 2, none⟩ (.slice (some ⟨g4, 0, none⟩) (n + 1) c4)) H' db key ⟨b.se, b.l ++ [x]⟩ ∧ Sp v (w4.setCell ⟨db, 2, none⟩ (.slice (some ⟨g4, 0, none⟩) (n + 1) c4)) H H' := by
  obtain ⟨hd4, K, k1, k2⟩ := t_old h hn hd ho hb hg
  obtain ⟨A', c', h1, _, h3⟩ := h.ex
  have e1 : (Value.slice A n c) = .slice A' b.l.length c' := by
    have x := hd.cell 2
    have y := h1.cell 2
    rw [x] at y
    simpa using y
  rw [← e1] at h3
  have hsz : w4.heap.size ≤ (w4.setCell ⟨db, 2, none⟩ (.slice (some ⟨g4, 0, none⟩) (n + 1) c4)).heap.size := by simp [World.setCell]
  have hlen : (b.l ++ [x]).length = n + 1 := by rw [List.length_append, hn]; rfl
  have hs : Sp v (w4.setCell ⟨db, 2, none⟩ (.slice (some ⟨g4, 0, none⟩) (n + 1) c4)) H (H ++ [g4]) := by
    refine ⟨(k1.more fun y hy => (k2 y hy).1).set (p := ⟨db, 2, none⟩) h.db _, fun y hy => ?_⟩
    rcases List.mem_append.1 hy with e | e
    · exact .inl e
    · rw [List.mem_singleton.1 e]
      rcases hat with e1 | e1
      · exact .inl (h3 g4 e1)
      · right; rw [e1]; exact hb.size
  refine ⟨H ++ [g4], ⟨⟨some ⟨g4, 0, none⟩, c4, ?_, ?_, fun g hg => ?_⟩, List.mem_append_left _ h.db, h.l.trans (hs.k.below h.l.size h.lo), fun y hy => ?_, fun y hy => ?_⟩, hs⟩
  · rw [hlen]; exact hd4.set 2 _
  · refine Ow.apart ho4 (p := ⟨db, 2, none⟩) (fun e => ?_) _
    obtain ⟨_, _, cs, hc⟩ := Ow.block ho4 (n + 1) g4 rfl
    rw [e] at hc
    have hc2 : w4.heap[db]? = _ := hc
    rw [show w4.heap[db]? = _ from hd4] at hc2
    injection hc2 with hc2
    injection hc2 with _ hc2
    exact absurd hc2 (by decide)
  · simp [Value.ownBlock] at hg
    rw [← hg]; simp
  · rcases hs.g y hy with e | e
    · exact h.lo y e
    · exact Nat.le_trans h.l.size e
  · rcases List.mem_append.1 hy with e | e
    · exact Nat.lt_of_lt_of_le (h.hi y e) hs.k.size
    · rw [List.mem_singleton.1 e]
      obtain ⟨_, hlt, _, _⟩ := Ow.block ho4 (n + 1) g4 rfl
      exact Nat.lt_of_lt_of_le hlt hsz
theorem two_bk {w : World} {g : Nat} {t : TypeId} {x y : ByteArray} (h : Bk w g t #[.string x, .string y]) : Rs w w.heap.size (some ⟨g, 0, none⟩) [x, y] := by
  refine .inr ⟨g, 0, rfl, h.lt, fun i hi => ?_⟩
  rw [h.cell]
  match i, hi with
  | 0, _ => rfl
  | 1, _ => rfl
set_option maxRecDepth 100000 in
set_option maxHeartbeats 8000000 in
theorem t_issue (h : Dt W u H db key b) (p : Ps) (d : ByteArray) (R : ByteArray × Int × Bt) (hE : issT b p (tixT key d) = R) (hf : b.l.length ≤ 64) (hk : key.size ≤ 3000) (hd : d.size ≤ 3000) (hs : 0 ≤ b.se) (hs2 : b.se ≤ 1000000) :
    Calls Tryd.prog 19 #[.pointer (some ⟨db, 0, none⟩), .agg (pcs p), .string d] u fun e u' => ∃ H', e = .returned (.tuple #[.string R.1, .int .i64 R.2.1]) ∧ Dt W u' H' db key R.2.2 ∧ Sp u u' H H' := by
  obtain ⟨A, c, h1, h2, h3⟩ := h.ex
  obtain ⟨n, hn⟩ : ∃ n, b.l.length = n := ⟨_, rfl⟩
  obtain ⟨M, hM⟩ := Int.eq_ofNat_of_zero_le hs
  have HR := Lib.hid (Ow.rw_ (f := tkc) (k := 5) (fun _ => rfl) h2)
  have HOW := Lib.hid h2
  have HOG := Lib.hid h3
  have HN := Lib.hid hn
  have HD := Lib.hid h
  have HE := Lib.hid hE
  have HM := Lib.hid hM
  have HKD := Lib.hid (And.intro hk hd)
  obtain ⟨pv, pn, pt, pe⟩ := p
  obtain ⟨u1, hu1⟩ : ∃ u1, u.alloc (.cells #[.int .i64 pv, .string pn, .string pt, .int .i64 pe] 31) = u1 := ⟨_, rfl⟩
  obtain ⟨g, hg⟩ : ∃ g, u.heap.size = g := ⟨_, rfl⟩
  have HB := Lib.hid (show Below u.heap.size u u1 by rw [← hu1]; exact (Below.refl _ _).alloc (Nat.le_refl _) _)
  have HZ := Lib.hid (show Bz u1 H g 31 #[.int .i64 pv, .string pn, .string pt, .int .i64 pe] by rw [← hu1, ← hg]; exact Bz.new h.hi _ _)
  have HG := Lib.hid hg
  rw [hn, hM] at h1
  rw [hn] at hf
  have hM2 : M ≤ 1000000 := by omega
  have HBK := Lib.hid (show ∀ w, Below u1.heap.size u1 w → Bk w db 44 #[.string key, .int .i64 (M : Int), .slice A n c] from fun w hb => h1.below (HB.out.trans (hb.mono HB.out.size)) h1.lt)
  have HBG := Lib.hid (show ∀ w, Below u1.heap.size u1 w → Bk w g 31 #[.int .i64 pv, .string pn, .string pt, .int .i64 pe] from fun w hb => HZ.out.b.below hb HZ.out.b.lt)
  clear h h1 h2 h3 hn hE hM hs hs2 hk hd
  show Calls Tryd.prog 19 #[.pointer (some ⟨db, 0, none⟩), .agg #[.int .i64 pv, .string pn, .string pt, .int .i64 pe], .string d] u _
  go_enter Tryd.func19, Tryd.ntmps19
  go_upto_region 1 with fail
  try rw [hu1]
  try rw [hg]
  clear hu1 hg
  go_wp2
  go_loopw [8] (fun v8 wr => ∃ i : Nat, i ≤ n ∧ v8 = .int .i64 (i : Int) ∧ Hid (∀ y ∈ b.l.take i, visT pv y = false) ∧ Hid (Below u1.heap.size u1 wr)) (fun v8 _ => n - (intOf v8).toNat)
  case atStart => exact ⟨0, by omega, rfl, Lib.hid (fun y hy => by simp at hy), Lib.hid (Below.refl _ _)⟩
  case round =>
    obtain ⟨i, hi, rfl, H0, HBW⟩ := hrel
    have c2 : wr.cell? ⟨db, 2, none⟩ = some (.slice A n c) := (HBK.out wr HBW.out).cell 2
    by_cases hi1 : i < n
    · have hi2 : (i : Int) < (n : Int) := by omega
      obtain ⟨bx, o, x, rfl, hx, hc⟩ := row5 HR.out i (by rw [HN.out]; exact hi1)
      have x1 := (hc wr (HB.out.trans (HBW.out.mono HB.out.size))).2.1
      have HX := Lib.hid hx
      have g0 : wr.cell? ⟨g, 0, none⟩ = some (.int .i64 pv) := (HBG.out wr HBW.out).cell 0
      obtain ⟨e, he⟩ : ∃ e, (x.p.vis == pv) = e := ⟨_, rfl⟩
      have HV := Lib.hid (show visT pv x = e from he)
      clear hc hx
      cases e with
      | true =>
        have HP := Lib.hid (show R = (⟨#[]⟩, 4, b) from by
          rw [← HE.out]
          unfold issT
          rw [if_pos (List.any_eq_true.2 ⟨x, List.mem_of_getElem? HX.out, HV.out⟩)])
        go_wp2_with (go_region)
        go_ret2
        have z1 := HD.out.on (HB.out.trans ((HBW.out.drew).mono HB.out.size))
        have z2 := (Ke.of (HB.out.trans ((HBW.out.drew).mono HB.out.size))).sp (G := H)
        rw [HP.out]
        first
          | exact ⟨H, rfl, z1, z2⟩
          | exact ⟨rfl, H, z1, z2⟩
      | false =>
        go_wp2_with (go_region)
        go_roundw
        case rel =>
          refine ⟨i + 1, by omega, by go_num, Lib.hid (fun y hy => ?_), Lib.hid (HBW.out.drew)⟩
          rw [List.take_add_one, HX.out, List.mem_append] at hy
          rcases hy with hy | hy
          · exact H0.out y hy
          · simp at hy; rw [hy]; exact HV.out
        case measure => simp [intOf]; omega
    · have hi2 : ¬ (i : Int) < (n : Int) := by omega
      have HA := Lib.hid (show b.l.any (visT pv) = false from by
        rw [List.any_eq_false]
        intro y hy
        rw [H0.out y (by rw [List.take_of_length_le (by rw [HN.out]; omega)]; exact hy)]
        simp)
      have c1 : wr.cell? ⟨db, 1, none⟩ = some (.int .i64 (M : Int)) := (HBK.out wr HBW.out).cell 1
      have f1 := (HBK.out wr HBW.out).frozen 1
      by_cases h64 : 64 ≤ n
      · have h64b : (n : Int) ≥ 64 := by omega
        have HP := Lib.hid (show R = (⟨#[]⟩, 2, b) from by
          rw [← HE.out]
          unfold issT
          rw [HA.out, if_neg (by simp), if_pos (by rw [HN.out]; exact h64)])
        go_wp2
        go_ret2
        have z1 := HD.out.on (HB.out.trans (HBW.out.mono HB.out.size))
        have z2 := (Ke.of (HB.out.trans (HBW.out.mono HB.out.size))).sp (G := H)
        rw [HP.out]
        first
          | exact ⟨H, rfl, z1, z2⟩
          | exact ⟨rfl, H, z1, z2⟩
      · have h64b : ¬ (n : Int) ≥ 64 := by omega
        have h64c : decide ((n : Int) ≥ 64) = false := decide_eq_false h64b
        have h64d : decide ((64 : Int) ≤ (n : Int)) = false := decide_eq_false h64b
        have hw : IntKind.i64.wrap ((M : Int) + 1) = ((M + 1 : Nat) : Int) := (iwrap _ (M + 1) (by omega) (by omega)).1
        have HP := Lib.hid (show R = (tixT key d ((M + 1 : Nat) : Int), 0, ⟨((M + 1 : Nat) : Int), b.l ++ [⟨tixT key d ((M + 1 : Nat) : Int), ⟨pv, pn, pt, pe⟩⟩]⟩) from by
          rw [← HE.out]
          unfold issT
          rw [HA.out, if_neg (by simp), if_neg (by rw [HN.out]; exact h64), HM.out]
          rfl)
        go_upto_region 9 with fail
        obtain ⟨N, hN⟩ : ∃ N, M + 1 = N := ⟨_, rfl⟩
        have hNi : ((M : Int) + 1) = (N : Int) := by omega
        have hN2 : N ≤ 1000001 := by omega
        rw [hN] at HP
        rw [hNi]
        have hdg : g ≠ db := fun e => HZ.out.n (by rw [e]; exact HD.out.db)
        obtain ⟨u2, hu2⟩ : ∃ u2, wr.setCell ⟨db, 1, none⟩ (.int .i64 (N : Int)) = u2 := ⟨_, rfl⟩
        have HBu := Lib.hid (HB.out.trans (HBW.out.mono HB.out.size))
        have HD2 := Lib.hid (show Dt W u2 H db key ⟨(N : Int), b.l⟩ by rw [← hu2]; exact dt_se (HD.out.on HBu.out) _)
        have HS2 := Lib.hid (show Sp u u2 H H by rw [← hu2]; exact Sp.of (((Ke.of HBu.out).nil).set (p := ⟨db, 1, none⟩) HD.out.db _))
        have HK2 := Lib.hid (show Bk u2 db 44 #[.string key, .int .i64 (N : Int), .slice A n c] by rw [← hu2]; exact (HBK.out wr HBW.out).set 1 _)
        have HO2 := Lib.hid (show Ow 62 5 tkc u2 W.heap.size A c b.l by rw [← hu2]; exact ow_db (HOW.out.on HBu.out) (HBK.out wr HBW.out) 1 _)
        have HG2 := Lib.hid (show Bk u2 g 31 #[.int .i64 pv, .string pn, .string pt, .int .i64 pe] by rw [← hu2]; exact (HBG.out wr HBW.out).far hdg _)
        rw [hu2]
        clear hu2 hN hNi c1 c2 f1 hw h64b h64c h64d hdg HBW HBu HBK HBG HZ
        obtain ⟨KN, hK0⟩ : ∃ KN, min d.size 255 = KN := ⟨_, rfl⟩
        have HMIN := Lib.hid (show min (d.size : Int) 255 = (KN : Int) by omega)
        have HCUT := Lib.hid (show cutT d = d.extract 0 KN by unfold cutT; rw [hK0])
        have hK1 : KN ≤ d.size := by omega
        have hK2 : KN ≤ 255 := by omega
        clear hK0
        obtain ⟨wd, hwd⟩ : ∃ wd, u2.drew = wd := ⟨_, rfl⟩
        have hxd : Below u2.heap.size u2 wd := by rw [← hwd]; exact (Below.refl _ _).drew
        obtain ⟨PF, hPF⟩ : ∃ PF, prfT key d (N : Int) = PF := ⟨_, rfl⟩
        have HPF := Lib.hid (show PF = ⟨(proofB key.data.toList [bs (decB N), d.extract 0 KN]).toArray⟩ by rw [← hPF, ← HCUT.out]; rfl)
        have hpf : PF.size = 64 := by rw [← hPF]; exact prf_size _ _ _ (by show N ≤ _; omega)
        have HP2 := Lib.hid (show R = (PF.extract 0 32, 0, ⟨(N : Int), b.l ++ [⟨PF.extract 0 32, ⟨pv, pn, pt, pe⟩⟩]⟩) by rw [HP.out]; unfold tixT; rw [hPF])
        have HSM := Lib.hid (show ∀ x ∈ [bs (decB N), d.extract 0 KN], x.size ≤ 140737488355328 from fun x hx => by
          rcases List.mem_cons.1 hx with rfl | hx
          · have := dec_few N (by omega); omega
          · rw [List.mem_singleton.1 hx, ByteArray.size_extract]; omega)
        have HTX := Lib.hid (show (textsB [bs (decB N), d.extract 0 KN]).length ≤ 549755813888 from by
          have h1 := textB_few (bs (decB N))
          have h2 := textB_few (d.extract 0 KN)
          unfold textsB
          simp only [List.map_cons, List.map_nil, List.flatten_cons, List.flatten_nil, List.length_append, List.length_nil]
          omega)
        clear hPF HP
        try simp only [List.cons_append, List.nil_append]
        refine wp_region_held_drew (S := fun wz => Below u2.heap.size u2 wz) (by kernel_rfl) ((Below.refl _ _).drew) (fun hHeld => ?_)
        refine take_at (some 45) (i := 0) (v := ?_) rfl rfl (by kernel_rfl) (by kernel_rfl) (by kernel_rfl) (fun _ _ _ h => h) (Or.inl ⟨by kernel_rfl, ?_⟩) hHeld ?_
        rotate_left
        · intro wz hSw; go_simp; try (with_reducible rfl)
        try simp only [Act.put, List.setIfInBounds_toArray, List.set_cons_zero, List.set_cons_succ, List.getElem_toArray, List.getElem_cons_succ, List.getElem_cons_zero]
        refine take_at (some 46) (i := 1) (v := ?_) rfl rfl (by kernel_rfl) (by kernel_rfl) (by kernel_rfl) (fun _ _ _ h => h) (Or.inl ⟨by kernel_rfl, ?_⟩) hHeld ?_
        rotate_left
        · intro wz hSw; have q0 : wz.cell? ⟨db, 0, none⟩ = some (.string key) := (HK2.out.below hSw HK2.out.lt).cell 0; have q1 : wz.cell? ⟨db, 1, none⟩ = some (.int .i64 (N : Int)) := (HK2.out.below hSw HK2.out.lt).cell 1; go_simp; try (with_reducible rfl)
        try simp only [Act.put, List.setIfInBounds_toArray, List.set_cons_zero, List.set_cons_succ, List.getElem_toArray, List.getElem_cons_succ, List.getElem_cons_zero]
        refine take_at (some 47) (i := 2) (v := ?_) rfl rfl (by kernel_rfl) (by kernel_rfl) (by kernel_rfl) (fun _ _ _ h => h) (Or.inl ⟨by kernel_rfl, ?_⟩) hHeld ?_
        rotate_left
        · intro wz hSw; have q0 : wz.cell? ⟨db, 0, none⟩ = some (.string key) := (HK2.out.below hSw HK2.out.lt).cell 0; have q1 : wz.cell? ⟨db, 1, none⟩ = some (.int .i64 (N : Int)) := (HK2.out.below hSw HK2.out.lt).cell 1; go_simp; try (with_reducible rfl)
        try simp only [Act.put, List.setIfInBounds_toArray, List.set_cons_zero, List.set_cons_succ, List.getElem_toArray, List.getElem_cons_succ, List.getElem_cons_zero]
        refine take_at (some 48) (i := 3) (v := ?_) rfl rfl (by kernel_rfl) (by kernel_rfl) (by kernel_rfl) (fun _ _ _ h => h) (Or.inl ⟨by kernel_rfl, ?_⟩) hHeld ?_
        rotate_left
        · intro wz hSw; have q0 : wz.cell? ⟨db, 0, none⟩ = some (.string key) := (HK2.out.below hSw HK2.out.lt).cell 0; have q1 : wz.cell? ⟨db, 1, none⟩ = some (.int .i64 (N : Int)) := (HK2.out.below hSw HK2.out.lt).cell 1; go_simp; try (with_reducible rfl)
        try simp only [Act.put, List.setIfInBounds_toArray, List.set_cons_zero, List.set_cons_succ, List.getElem_toArray, List.getElem_cons_succ, List.getElem_cons_zero]
        refine take_at (some 50) (i := 5) (v := ?_) rfl rfl (by kernel_rfl) (by kernel_rfl) (by kernel_rfl) (fun _ _ _ h => h) (Or.inl ⟨by kernel_rfl, ?_⟩) hHeld ?_
        rotate_left
        · intro wz hSw; go_simp; try (with_reducible rfl)
        try simp only [Act.put, List.setIfInBounds_toArray, List.set_cons_zero, List.set_cons_succ, List.getElem_toArray, List.getElem_cons_succ, List.getElem_cons_zero]
        refine take_at (some 51) (i := 6) (v := ?_) rfl rfl (by kernel_rfl) (by kernel_rfl) (by kernel_rfl) (fun _ _ _ h => h) (Or.inl ⟨by kernel_rfl, ?_⟩) hHeld ?_
        rotate_left
        · intro wz hSw; have q0 : wz.cell? ⟨db, 0, none⟩ = some (.string key) := (HK2.out.below hSw HK2.out.lt).cell 0; have q1 : wz.cell? ⟨db, 1, none⟩ = some (.int .i64 (N : Int)) := (HK2.out.below hSw HK2.out.lt).cell 1; go_simp; try (with_reducible rfl)
        try simp only [Act.put, List.setIfInBounds_toArray, List.set_cons_zero, List.set_cons_succ, List.getElem_toArray, List.getElem_cons_succ, List.getElem_cons_zero]
        refine take_at (some 52) (i := 7) (v := ?_) rfl rfl (by kernel_rfl) (by kernel_rfl) (by kernel_rfl) (fun _ _ _ h => h) (Or.inl ⟨by kernel_rfl, ?_⟩) hHeld ?_
        rotate_left
        · intro wz hSw; have q0 : wz.cell? ⟨db, 0, none⟩ = some (.string key) := (HK2.out.below hSw HK2.out.lt).cell 0; have q1 : wz.cell? ⟨db, 1, none⟩ = some (.int .i64 (N : Int)) := (HK2.out.below hSw HK2.out.lt).cell 1; go_simp; try (with_reducible rfl)
        try simp only [Act.put, List.setIfInBounds_toArray, List.set_cons_zero, List.set_cons_succ, List.getElem_toArray, List.getElem_cons_succ, List.getElem_cons_zero]
        refine take_at (some 53) (i := 8) (v := ?_) rfl rfl (by kernel_rfl) (by kernel_rfl) (by kernel_rfl) (fun _ _ _ h => h) (Or.inl ⟨by kernel_rfl, ?_⟩) hHeld ?_
        rotate_left
        · intro wz hSw; have q0 : wz.cell? ⟨db, 0, none⟩ = some (.string key) := (HK2.out.below hSw HK2.out.lt).cell 0; have q1 : wz.cell? ⟨db, 1, none⟩ = some (.int .i64 (N : Int)) := (HK2.out.below hSw HK2.out.lt).cell 1; go_simp; try (with_reducible rfl)
        try simp only [Act.put, List.setIfInBounds_toArray, List.set_cons_zero, List.set_cons_succ, List.getElem_toArray, List.getElem_cons_succ, List.getElem_cons_zero]
        refine take_at (some 55) (i := 10) (v := ?_) rfl rfl (by kernel_rfl) (by kernel_rfl) (by kernel_rfl) (fun _ _ _ h => h) (Or.inl ⟨by kernel_rfl, ?_⟩) hHeld ?_
        rotate_left
        · intro wz hSw; go_simp; try (with_reducible rfl)
        try simp only [Act.put, List.setIfInBounds_toArray, List.set_cons_zero, List.set_cons_succ, List.getElem_toArray, List.getElem_cons_succ, List.getElem_cons_zero]
        refine take_at (some 56) (i := 11) (v := ?_) rfl rfl (by kernel_rfl) (by kernel_rfl) (by kernel_rfl) (fun _ _ _ h => h) (Or.inl ⟨by kernel_rfl, ?_⟩) hHeld ?_
        rotate_left
        · intro wz hSw; go_simp; try (with_reducible rfl)
        try simp only [Act.put, List.setIfInBounds_toArray, List.set_cons_zero, List.set_cons_succ, List.getElem_toArray, List.getElem_cons_succ, List.getElem_cons_zero]
        refine take_at (some 57) (i := 12) (v := ?_) rfl rfl (by kernel_rfl) (by kernel_rfl) (by kernel_rfl) (fun _ _ _ h => h) (Or.inl ⟨by kernel_rfl, ?_⟩) hHeld ?_
        rotate_left
        · intro wz hSw; go_simp; try (with_reducible rfl)
        try simp only [Act.put, List.setIfInBounds_toArray, List.set_cons_zero, List.set_cons_succ, List.getElem_toArray, List.getElem_cons_succ, List.getElem_cons_zero]
        refine take_at (some 58) (i := 13) rfl rfl (by kernel_rfl) (by kernel_rfl) (by kernel_rfl) (fun _ _ _ h => h) (yieldsIf_min (by kernel_rfl) (.tmp 57) (.const (.int .i64 255)) 3 rfl _ _ _ rfl rfl HMIN.out) hHeld ?_
        try simp only [Act.put, List.setIfInBounds_toArray, List.set_cons_zero, List.set_cons_succ, List.getElem_toArray, List.getElem_cons_succ, List.getElem_cons_zero]
        refine take_at (some 59) (i := 14) (v := ?_) rfl rfl (by kernel_rfl) (by kernel_rfl) (by kernel_rfl) (fun _ _ _ h => h) (Or.inl ⟨by kernel_rfl, ?_⟩) hHeld ?_
        rotate_left
        · intro wz hSw; go_simp; try (with_reducible rfl)
        try simp only [Act.put, List.setIfInBounds_toArray, List.set_cons_zero, List.set_cons_succ, List.getElem_toArray, List.getElem_cons_succ, List.getElem_cons_zero]
        try rw [hwd]
        refine wpAnyH_ready (rs := [4, 9]) (by kernel_rfl) (by simp) (AllReadyH.cons rfl (fun K hK => ?_) (AllReadyH.cons rfl (fun K hK => ?_) AllReadyH.nil))
        · rw [if_pos (by kernel_rfl)]
          obtain ⟨cap, ob, hcb, hcap1, hcap2, hRB⟩ := conv_back key (by have := HKD.out.1; omega) wd
          go_simp
          try dsimp only
          obtain ⟨w3, hw1⟩ : ∃ w1, (wd.alloc ob).drew = w1 := ⟨_, rfl⟩
          obtain ⟨gk, hgk⟩ : ∃ gk, wd.heap.size = gk := ⟨_, rfl⟩
          have hRB1 : Rb w3 w3.heap.size (some ⟨gk, 0, none⟩) key.data.toList := by rw [← hw1, ← hgk]; exact hRB
          try rw [hw1]
          try rw [hgk]
          have hx3 : Below u2.heap.size u2 w3 := by rw [← hw1]; exact (hxd.alloc hxd.size _).drew
          have hbw : Below wd.heap.size wd w3 := by rw [← hw1]; exact ((Below.refl _ _).alloc (Nat.le_refl _) _).drew
          clear hcb hRB hw1 hgk
          refine hK.out _ _ hx3 (fun hHeld => ?_)
          try simp only [Act.put, List.setIfInBounds_toArray, List.set_cons_zero, List.set_cons_succ, List.getElem_toArray, List.getElem_cons_succ, List.getElem_cons_zero]
          refine wpAnyH_ready (rs := [9]) (by kernel_rfl) (by simp) (AllReadyH.cons rfl (fun K hK => ?_) AllReadyH.nil)
          rw [if_pos (by kernel_rfl)]
          go_simp
          refine (rdec_ok N w3 (by omega)).mono ?_
          rintro e w4 ⟨rfl, hb⟩
          try dsimp only
          have hx4 : Below u2.heap.size u2 w4 := hx3.trans (hb.mono hx3.size)
          have hRB4 := (hRB1.below hb (Nat.le_refl _)).more hb.size
          clear hb
          refine hK.out _ _ hx4 (fun hHeld => ?_)
          try simp only [Act.put, List.setIfInBounds_toArray, List.set_cons_zero, List.set_cons_succ, List.getElem_toArray, List.getElem_cons_succ, List.getElem_cons_zero]
          refine wpAnyH_ready (rs := [15]) (by kernel_rfl) (by simp) (AllReadyH.cons rfl (fun K hK => ?_) AllReadyH.nil)
          rw [if_pos (by kernel_rfl)]
          go_simp
          try dsimp only
          obtain ⟨w5, hw5⟩ : ∃ w5, w4.alloc (.cells #[.string (bs (decB N)), .string (d.extract 0 KN)] 9) = w5 := ⟨_, rfl⟩
          obtain ⟨gw, hgw⟩ : ∃ gw, w4.heap.size = gw := ⟨_, rfl⟩
          have hx5 : Below u2.heap.size u2 w5 := by rw [← hw5]; exact hx4.alloc hx4.size _
          have hbk5 : Bk w5 gw 9 #[.string (bs (decB N)), .string (d.extract 0 KN)] := by rw [← hw5, ← hgw]; exact Bk.new _ _ _
          have hbb : Below w4.heap.size w4 w5 := by rw [← hw5]; exact (Below.refl _ _).alloc (Nat.le_refl _) _
          try rw [hw5]
          try rw [hgw]
          clear hw5 hgw
          refine hK.out _ _ hx5 (fun hHeld => ?_)
          try simp only [Act.put, List.setIfInBounds_toArray, List.set_cons_zero, List.set_cons_succ, List.getElem_toArray, List.getElem_cons_succ, List.getElem_cons_zero]
          have hrb5 := (hRB4.below hbb (Nat.le_refl _)).more hbb.size
          refine wpAnyH_ready (rs := [16]) (by kernel_rfl) (by simp) (AllReadyH.cons rfl (fun K hK => ?_) AllReadyH.nil)
          rw [if_pos (by kernel_rfl)]
          go_simp
          refine (rproof_ok (some ⟨gk, 0, none⟩) key.size cap key.data.toList (some ⟨gw, 0, none⟩) 2 2 [bs (decB N), d.extract 0 KN] w5 rfl hcap1 hcap2 (by have := HKD.out.1; omega) hrb5 (fun h => by cases h) rfl (by omega) (two_bk hbk5) HSM.out HTX.out).mono ?_
          rintro e w6 ⟨rfl, hb⟩
          try dsimp only
          rw [← HPF.out]
          have hx6 : Below u2.heap.size u2 w6 := hx5.trans (hb.mono hx5.size)
          clear hb
          refine hK.out _ _ hx6 (fun hHeld => ?_)
          try simp only [Act.put, List.setIfInBounds_toArray, List.set_cons_zero, List.set_cons_succ, List.getElem_toArray, List.getElem_cons_succ, List.getElem_cons_zero]
          refine wpAnyH_ready (rs := [17]) (by kernel_rfl) (by simp) (AllReadyH.cons rfl (fun K hK => ?_) AllReadyH.nil)
          rw [if_pos (by kernel_rfl)]
          go_simp
          refine hK.out _ _ hx6 (fun hHeld => ?_)
          try simp only [Act.put, List.setIfInBounds_toArray, List.set_cons_zero, List.set_cons_succ, List.getElem_toArray, List.getElem_cons_succ, List.getElem_cons_zero]
          refine wpAnyH_done (by kernel_rfl) ?_ _
          clear hHeld hrb5 hbk5 hx5 hx4 hcap1 hcap2
          go_upto_region 10 with fail
          have HX6 := Lib.hid hx6
          obtain ⟨T, hT⟩ : ∃ T, PF.extract 0 32 = T := ⟨_, rfl⟩
          have HT := Lib.hid hT
          have hpi : (32 : Int) ≤ (PF.size : Int) := by omega
          have c2 : w6.cell? ⟨db, 2, none⟩ = some (.slice A n c) := (HK2.out.below hx6 HK2.out.lt).cell 2
          have f2 := (HK2.out.below hx6 HK2.out.lt).frozen 2
          have e0 : w6.cell? ⟨g, 0, none⟩ = some (.int .i64 pv) := (HG2.out.below hx6 HG2.out.lt).cell 0
          have e1 : w6.cell? ⟨g, 1, none⟩ = some (.string pn) := (HG2.out.below hx6 HG2.out.lt).cell 1
          have e2 : w6.cell? ⟨g, 2, none⟩ = some (.string pt) := (HG2.out.below hx6 HG2.out.lt).cell 2
          have e3 : w6.cell? ⟨g, 3, none⟩ = some (.int .i64 pe) := (HG2.out.below hx6 HG2.out.lt).cell 3
          have HX7 := Lib.hid (show Below u2.heap.size u2 ((w6.alloc (.cells #[.string (PF.extract 0 32), .int .i64 pv, .string pn, .string pt, .int .i64 pe] 62)).drew) from (hx6.alloc hx6.size _).drew)
          have c2a : ((w6.alloc (.cells #[.string (PF.extract 0 32), .int .i64 pv, .string pn, .string pt, .int .i64 pe] 62)).drew).cell? ⟨db, 2, none⟩ = some (.slice A n c) := (HK2.out.below HX7.out HK2.out.lt).cell 2
          have HO7 := Lib.hid (show Ow 62 5 tkc ((w6.alloc (.cells #[.string (PF.extract 0 32), .int .i64 pv, .string pn, .string pt, .int .i64 pe] 62)).drew) W.heap.size A c b.l from HO2.out.on HX7.out)
          have HRX := Lib.hid (show Rw 5 tkc ((w6.alloc (.cells #[.string (PF.extract 0 32), .int .i64 pv, .string pn, .string pt, .int .i64 pe] 62)).drew) (some ⟨w6.heap.size, 0, none⟩) [(⟨PF.extract 0 32, ⟨pv, pn, pt, pe⟩⟩ : Tk5)] from Rw.bk (f := tkc) (k := 5) (x := (⟨PF.extract 0 32, ⟨pv, pn, pt, pe⟩⟩ : Tk5)) (Bk.new w6 62 #[.string (PF.extract 0 32), .int .i64 pv, .string pn, .string pt, .int .i64 pe]).drew)
          have HS7 := Lib.hid (show W.heap.size ≤ ((w6.alloc (.cells #[.string (PF.extract 0 32), .int .i64 pv, .string pn, .string pt, .int .i64 pe] 62)).drew).heap.size from Nat.le_trans HD2.out.l.size HX7.out.size)
          clear hx6 hT
          go_region_law (first | (refine step_rows_at roT5 rfl (.tmp 66) (.tmp 71) rfl n rfl HN.out HO7.out (⟨PF.extract 0 32, ⟨pv, pn, pt, pe⟩⟩ : Tk5) w6.heap.size 1 rfl HRX.out (by omega) HS7.out (n + 1) rfl ?_; intro g8 c8 w8 ho hgr hb hat; have HW8 := Lib.hid (And.intro ho (And.intro hgr hat)); have hbk8 := (t_old HD2.out HN.out HK2.out HO2.out HX7.out hgr).1; have c8a : w8.cell? ⟨db, 2, none⟩ = some (.slice A n c) := hbk8.cell 2; have f8 := hbk8.frozen 2; clear ho hgr hb hat hbk8))
          all_goals
            go_wp2
            go_ret2
            obtain ⟨H', z1, z2⟩ := t_put HD2.out HN.out HK2.out HO2.out HX7.out HW8.out.2.1 HW8.out.1 HW8.out.2.2
            have z3 := HS2.out.trans z2
            rw [HP2.out]
            first
              | exact ⟨H', rfl, z1, z3⟩
              | exact ⟨rfl, H', z1, z3⟩
        · rw [if_pos (by kernel_rfl)]
          go_simp
          refine (rdec_ok N wd (by omega)).mono ?_
          rintro e w3 ⟨rfl, hb⟩
          try dsimp only
          have hx3 : Below u2.heap.size u2 w3 := hxd.trans (hb.mono hxd.size)
          clear hb
          refine hK.out _ _ hx3 (fun hHeld => ?_)
          try simp only [Act.put, List.setIfInBounds_toArray, List.set_cons_zero, List.set_cons_succ, List.getElem_toArray, List.getElem_cons_succ, List.getElem_cons_zero]
          refine wpAnyH_ready (rs := [4, 15]) (by kernel_rfl) (by simp) (AllReadyH.cons rfl (fun K hK => ?_) (AllReadyH.cons rfl (fun K hK => ?_) AllReadyH.nil))
          · rw [if_pos (by kernel_rfl)]
            obtain ⟨cap, ob, hcb, hcap1, hcap2, hRB⟩ := conv_back key (by have := HKD.out.1; omega) w3
            go_simp
            try dsimp only
            obtain ⟨w4, hw1⟩ : ∃ w1, (w3.alloc ob).drew = w1 := ⟨_, rfl⟩
            obtain ⟨gk, hgk⟩ : ∃ gk, w3.heap.size = gk := ⟨_, rfl⟩
            have hRB1 : Rb w4 w4.heap.size (some ⟨gk, 0, none⟩) key.data.toList := by rw [← hw1, ← hgk]; exact hRB
            try rw [hw1]
            try rw [hgk]
            have hx4 : Below u2.heap.size u2 w4 := by rw [← hw1]; exact (hx3.alloc hx3.size _).drew
            have hbw : Below w3.heap.size w3 w4 := by rw [← hw1]; exact ((Below.refl _ _).alloc (Nat.le_refl _) _).drew
            clear hcb hRB hw1 hgk
            refine hK.out _ _ hx4 (fun hHeld => ?_)
            try simp only [Act.put, List.setIfInBounds_toArray, List.set_cons_zero, List.set_cons_succ, List.getElem_toArray, List.getElem_cons_succ, List.getElem_cons_zero]
            refine wpAnyH_ready (rs := [15]) (by kernel_rfl) (by simp) (AllReadyH.cons rfl (fun K hK => ?_) AllReadyH.nil)
            rw [if_pos (by kernel_rfl)]
            go_simp
            try dsimp only
            obtain ⟨w5, hw5⟩ : ∃ w5, w4.alloc (.cells #[.string (bs (decB N)), .string (d.extract 0 KN)] 9) = w5 := ⟨_, rfl⟩
            obtain ⟨gw, hgw⟩ : ∃ gw, w4.heap.size = gw := ⟨_, rfl⟩
            have hx5 : Below u2.heap.size u2 w5 := by rw [← hw5]; exact hx4.alloc hx4.size _
            have hbk5 : Bk w5 gw 9 #[.string (bs (decB N)), .string (d.extract 0 KN)] := by rw [← hw5, ← hgw]; exact Bk.new _ _ _
            have hbb : Below w4.heap.size w4 w5 := by rw [← hw5]; exact (Below.refl _ _).alloc (Nat.le_refl _) _
            try rw [hw5]
            try rw [hgw]
            clear hw5 hgw
            refine hK.out _ _ hx5 (fun hHeld => ?_)
            try simp only [Act.put, List.setIfInBounds_toArray, List.set_cons_zero, List.set_cons_succ, List.getElem_toArray, List.getElem_cons_succ, List.getElem_cons_zero]
            have hrb5 := (hRB1.below hbb (Nat.le_refl _)).more hbb.size
            refine wpAnyH_ready (rs := [16]) (by kernel_rfl) (by simp) (AllReadyH.cons rfl (fun K hK => ?_) AllReadyH.nil)
            rw [if_pos (by kernel_rfl)]
            go_simp
            refine (rproof_ok (some ⟨gk, 0, none⟩) key.size cap key.data.toList (some ⟨gw, 0, none⟩) 2 2 [bs (decB N), d.extract 0 KN] w5 rfl hcap1 hcap2 (by have := HKD.out.1; omega) hrb5 (fun h => by cases h) rfl (by omega) (two_bk hbk5) HSM.out HTX.out).mono ?_
            rintro e w6 ⟨rfl, hb⟩
            try dsimp only
            rw [← HPF.out]
            have hx6 : Below u2.heap.size u2 w6 := hx5.trans (hb.mono hx5.size)
            clear hb
            refine hK.out _ _ hx6 (fun hHeld => ?_)
            try simp only [Act.put, List.setIfInBounds_toArray, List.set_cons_zero, List.set_cons_succ, List.getElem_toArray, List.getElem_cons_succ, List.getElem_cons_zero]
            refine wpAnyH_ready (rs := [17]) (by kernel_rfl) (by simp) (AllReadyH.cons rfl (fun K hK => ?_) AllReadyH.nil)
            rw [if_pos (by kernel_rfl)]
            go_simp
            refine hK.out _ _ hx6 (fun hHeld => ?_)
            try simp only [Act.put, List.setIfInBounds_toArray, List.set_cons_zero, List.set_cons_succ, List.getElem_toArray, List.getElem_cons_succ, List.getElem_cons_zero]
            refine wpAnyH_done (by kernel_rfl) ?_ _
            clear hHeld hrb5 hbk5 hx5 hx4 hcap1 hcap2
            go_upto_region 10 with fail
            have HX6 := Lib.hid hx6
            obtain ⟨T, hT⟩ : ∃ T, PF.extract 0 32 = T := ⟨_, rfl⟩
            have HT := Lib.hid hT
            have hpi : (32 : Int) ≤ (PF.size : Int) := by omega
            have c2 : w6.cell? ⟨db, 2, none⟩ = some (.slice A n c) := (HK2.out.below hx6 HK2.out.lt).cell 2
            have f2 := (HK2.out.below hx6 HK2.out.lt).frozen 2
            have e0 : w6.cell? ⟨g, 0, none⟩ = some (.int .i64 pv) := (HG2.out.below hx6 HG2.out.lt).cell 0
            have e1 : w6.cell? ⟨g, 1, none⟩ = some (.string pn) := (HG2.out.below hx6 HG2.out.lt).cell 1
            have e2 : w6.cell? ⟨g, 2, none⟩ = some (.string pt) := (HG2.out.below hx6 HG2.out.lt).cell 2
            have e3 : w6.cell? ⟨g, 3, none⟩ = some (.int .i64 pe) := (HG2.out.below hx6 HG2.out.lt).cell 3
            have HX7 := Lib.hid (show Below u2.heap.size u2 ((w6.alloc (.cells #[.string (PF.extract 0 32), .int .i64 pv, .string pn, .string pt, .int .i64 pe] 62)).drew) from (hx6.alloc hx6.size _).drew)
            have c2a : ((w6.alloc (.cells #[.string (PF.extract 0 32), .int .i64 pv, .string pn, .string pt, .int .i64 pe] 62)).drew).cell? ⟨db, 2, none⟩ = some (.slice A n c) := (HK2.out.below HX7.out HK2.out.lt).cell 2
            have HO7 := Lib.hid (show Ow 62 5 tkc ((w6.alloc (.cells #[.string (PF.extract 0 32), .int .i64 pv, .string pn, .string pt, .int .i64 pe] 62)).drew) W.heap.size A c b.l from HO2.out.on HX7.out)
            have HRX := Lib.hid (show Rw 5 tkc ((w6.alloc (.cells #[.string (PF.extract 0 32), .int .i64 pv, .string pn, .string pt, .int .i64 pe] 62)).drew) (some ⟨w6.heap.size, 0, none⟩) [(⟨PF.extract 0 32, ⟨pv, pn, pt, pe⟩⟩ : Tk5)] from Rw.bk (f := tkc) (k := 5) (x := (⟨PF.extract 0 32, ⟨pv, pn, pt, pe⟩⟩ : Tk5)) (Bk.new w6 62 #[.string (PF.extract 0 32), .int .i64 pv, .string pn, .string pt, .int .i64 pe]).drew)
            have HS7 := Lib.hid (show W.heap.size ≤ ((w6.alloc (.cells #[.string (PF.extract 0 32), .int .i64 pv, .string pn, .string pt, .int .i64 pe] 62)).drew).heap.size from Nat.le_trans HD2.out.l.size HX7.out.size)
            clear hx6 hT
            go_region_law (first | (refine step_rows_at roT5 rfl (.tmp 66) (.tmp 71) rfl n rfl HN.out HO7.out (⟨PF.extract 0 32, ⟨pv, pn, pt, pe⟩⟩ : Tk5) w6.heap.size 1 rfl HRX.out (by omega) HS7.out (n + 1) rfl ?_; intro g8 c8 w8 ho hgr hb hat; have HW8 := Lib.hid (And.intro ho (And.intro hgr hat)); have hbk8 := (t_old HD2.out HN.out HK2.out HO2.out HX7.out hgr).1; have c8a : w8.cell? ⟨db, 2, none⟩ = some (.slice A n c) := hbk8.cell 2; have f8 := hbk8.frozen 2; clear ho hgr hb hat hbk8))
            all_goals
              go_wp2
              go_ret2
              obtain ⟨H', z1, z2⟩ := t_put HD2.out HN.out HK2.out HO2.out HX7.out HW8.out.2.1 HW8.out.1 HW8.out.2.2
              have z3 := HS2.out.trans z2
              rw [HP2.out]
              first
                | exact ⟨H', rfl, z1, z3⟩
                | exact ⟨rfl, H', z1, z3⟩
          · rw [if_pos (by kernel_rfl)]
            go_simp
            try dsimp only
            obtain ⟨w4, hw5⟩ : ∃ w5, w3.alloc (.cells #[.string (bs (decB N)), .string (d.extract 0 KN)] 9) = w5 := ⟨_, rfl⟩
            obtain ⟨gw, hgw⟩ : ∃ gw, w3.heap.size = gw := ⟨_, rfl⟩
            have hx4 : Below u2.heap.size u2 w4 := by rw [← hw5]; exact hx3.alloc hx3.size _
            have hbk5 : Bk w4 gw 9 #[.string (bs (decB N)), .string (d.extract 0 KN)] := by rw [← hw5, ← hgw]; exact Bk.new _ _ _
            have hbb : Below w3.heap.size w3 w4 := by rw [← hw5]; exact (Below.refl _ _).alloc (Nat.le_refl _) _
            try rw [hw5]
            try rw [hgw]
            clear hw5 hgw
            refine hK.out _ _ hx4 (fun hHeld => ?_)
            try simp only [Act.put, List.setIfInBounds_toArray, List.set_cons_zero, List.set_cons_succ, List.getElem_toArray, List.getElem_cons_succ, List.getElem_cons_zero]
            refine wpAnyH_ready (rs := [4]) (by kernel_rfl) (by simp) (AllReadyH.cons rfl (fun K hK => ?_) AllReadyH.nil)
            rw [if_pos (by kernel_rfl)]
            obtain ⟨cap, ob, hcb, hcap1, hcap2, hRB⟩ := conv_back key (by have := HKD.out.1; omega) w4
            go_simp
            try dsimp only
            obtain ⟨w5, hw1⟩ : ∃ w1, (w4.alloc ob).drew = w1 := ⟨_, rfl⟩
            obtain ⟨gk, hgk⟩ : ∃ gk, w4.heap.size = gk := ⟨_, rfl⟩
            have hRB1 : Rb w5 w5.heap.size (some ⟨gk, 0, none⟩) key.data.toList := by rw [← hw1, ← hgk]; exact hRB
            try rw [hw1]
            try rw [hgk]
            have hx5 : Below u2.heap.size u2 w5 := by rw [← hw1]; exact (hx4.alloc hx4.size _).drew
            have hbw : Below w4.heap.size w4 w5 := by rw [← hw1]; exact ((Below.refl _ _).alloc (Nat.le_refl _) _).drew
            clear hcb hRB hw1 hgk
            refine hK.out _ _ hx5 (fun hHeld => ?_)
            try simp only [Act.put, List.setIfInBounds_toArray, List.set_cons_zero, List.set_cons_succ, List.getElem_toArray, List.getElem_cons_succ, List.getElem_cons_zero]
            have hrb5 := hRB1
            replace hbk5 := hbk5.below (show Below w4.heap.size w4 w5 from hbw) hbk5.lt
            refine wpAnyH_ready (rs := [16]) (by kernel_rfl) (by simp) (AllReadyH.cons rfl (fun K hK => ?_) AllReadyH.nil)
            rw [if_pos (by kernel_rfl)]
            go_simp
            refine (rproof_ok (some ⟨gk, 0, none⟩) key.size cap key.data.toList (some ⟨gw, 0, none⟩) 2 2 [bs (decB N), d.extract 0 KN] w5 rfl hcap1 hcap2 (by have := HKD.out.1; omega) hrb5 (fun h => by cases h) rfl (by omega) (two_bk hbk5) HSM.out HTX.out).mono ?_
            rintro e w6 ⟨rfl, hb⟩
            try dsimp only
            rw [← HPF.out]
            have hx6 : Below u2.heap.size u2 w6 := hx5.trans (hb.mono hx5.size)
            clear hb
            refine hK.out _ _ hx6 (fun hHeld => ?_)
            try simp only [Act.put, List.setIfInBounds_toArray, List.set_cons_zero, List.set_cons_succ, List.getElem_toArray, List.getElem_cons_succ, List.getElem_cons_zero]
            refine wpAnyH_ready (rs := [17]) (by kernel_rfl) (by simp) (AllReadyH.cons rfl (fun K hK => ?_) AllReadyH.nil)
            rw [if_pos (by kernel_rfl)]
            go_simp
            refine hK.out _ _ hx6 (fun hHeld => ?_)
            try simp only [Act.put, List.setIfInBounds_toArray, List.set_cons_zero, List.set_cons_succ, List.getElem_toArray, List.getElem_cons_succ, List.getElem_cons_zero]
            refine wpAnyH_done (by kernel_rfl) ?_ _
            clear hHeld hrb5 hbk5 hx5 hx4 hcap1 hcap2
            go_upto_region 10 with fail
            have HX6 := Lib.hid hx6
            obtain ⟨T, hT⟩ : ∃ T, PF.extract 0 32 = T := ⟨_, rfl⟩
            have HT := Lib.hid hT
            have hpi : (32 : Int) ≤ (PF.size : Int) := by omega
            have c2 : w6.cell? ⟨db, 2, none⟩ = some (.slice A n c) := (HK2.out.below hx6 HK2.out.lt).cell 2
            have f2 := (HK2.out.below hx6 HK2.out.lt).frozen 2
            have e0 : w6.cell? ⟨g, 0, none⟩ = some (.int .i64 pv) := (HG2.out.below hx6 HG2.out.lt).cell 0
            have e1 : w6.cell? ⟨g, 1, none⟩ = some (.string pn) := (HG2.out.below hx6 HG2.out.lt).cell 1
            have e2 : w6.cell? ⟨g, 2, none⟩ = some (.string pt) := (HG2.out.below hx6 HG2.out.lt).cell 2
            have e3 : w6.cell? ⟨g, 3, none⟩ = some (.int .i64 pe) := (HG2.out.below hx6 HG2.out.lt).cell 3
            have HX7 := Lib.hid (show Below u2.heap.size u2 ((w6.alloc (.cells #[.string (PF.extract 0 32), .int .i64 pv, .string pn, .string pt, .int .i64 pe] 62)).drew) from (hx6.alloc hx6.size _).drew)
            have c2a : ((w6.alloc (.cells #[.string (PF.extract 0 32), .int .i64 pv, .string pn, .string pt, .int .i64 pe] 62)).drew).cell? ⟨db, 2, none⟩ = some (.slice A n c) := (HK2.out.below HX7.out HK2.out.lt).cell 2
            have HO7 := Lib.hid (show Ow 62 5 tkc ((w6.alloc (.cells #[.string (PF.extract 0 32), .int .i64 pv, .string pn, .string pt, .int .i64 pe] 62)).drew) W.heap.size A c b.l from HO2.out.on HX7.out)
            have HRX := Lib.hid (show Rw 5 tkc ((w6.alloc (.cells #[.string (PF.extract 0 32), .int .i64 pv, .string pn, .string pt, .int .i64 pe] 62)).drew) (some ⟨w6.heap.size, 0, none⟩) [(⟨PF.extract 0 32, ⟨pv, pn, pt, pe⟩⟩ : Tk5)] from Rw.bk (f := tkc) (k := 5) (x := (⟨PF.extract 0 32, ⟨pv, pn, pt, pe⟩⟩ : Tk5)) (Bk.new w6 62 #[.string (PF.extract 0 32), .int .i64 pv, .string pn, .string pt, .int .i64 pe]).drew)
            have HS7 := Lib.hid (show W.heap.size ≤ ((w6.alloc (.cells #[.string (PF.extract 0 32), .int .i64 pv, .string pn, .string pt, .int .i64 pe] 62)).drew).heap.size from Nat.le_trans HD2.out.l.size HX7.out.size)
            clear hx6 hT
            go_region_law (first | (refine step_rows_at roT5 rfl (.tmp 66) (.tmp 71) rfl n rfl HN.out HO7.out (⟨PF.extract 0 32, ⟨pv, pn, pt, pe⟩⟩ : Tk5) w6.heap.size 1 rfl HRX.out (by omega) HS7.out (n + 1) rfl ?_; intro g8 c8 w8 ho hgr hb hat; have HW8 := Lib.hid (And.intro ho (And.intro hgr hat)); have hbk8 := (t_old HD2.out HN.out HK2.out HO2.out HX7.out hgr).1; have c8a : w8.cell? ⟨db, 2, none⟩ = some (.slice A n c) := hbk8.cell 2; have f8 := hbk8.frozen 2; clear ho hgr hb hat hbk8))
            all_goals
              go_wp2
              go_ret2
              obtain ⟨H', z1, z2⟩ := t_put HD2.out HN.out HK2.out HO2.out HX7.out HW8.out.2.1 HW8.out.1 HW8.out.2.2
              have z3 := HS2.out.trans z2
              rw [HP2.out]
              first
                | exact ⟨H', rfl, z1, z3⟩
                | exact ⟨rfl, H', z1, z3⟩
end
end Go.Proofs.YtinbegnojfpeiaaDoor
