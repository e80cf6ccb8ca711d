/- Issue: its contract. (Written by gen_tk7.py.) -/
import Derived.Test.YtinbegnojfpeiaaDoorTk6
import Derived.Test.YtinbegnojfpeiaaDoorOpAt
namespace Go.Proofs.YtinbegnojfpeiaaDoor
set_option linter.unusedVariables false
set_option maxRecDepth 100000
set_option linter.unusedSimpArgs false
open Go.RowKit

section
variable {W u u' : World} {H H' : List Nat} {B tb : Nat} {key : ByteArray} {se : Int} {l l' : List Tq} {A : Option Addr} {c kb kc : Nat} {b b' : Bt}
/-- The serial turns. -/
theorem Tm.ser (h : Tm u H B tb key se l A c kb kc) (m : Int) : Tm (u.setCell ⟨tb, 1, none⟩ (.int .i64 m)) H B tb key m l A c kb kc ∧ Ke H u (u.setCell ⟨tb, 1, none⟩ (.int .i64 m)) := by
  have k : Ke [tb] u (u.setCell ⟨tb, 1, none⟩ (.int .i64 m)) := (Ke.refl [tb] u).set (p := ⟨tb, 1, none⟩) (List.mem_singleton.2 rfl) _
  have hk : Ke H u (u.setCell ⟨tb, 1, none⟩ (.int .i64 m)) := k.more (fun x hx => by rw [List.mem_singleton.1 hx]; exact h.tb)
  have hne : ∀ {y : Nat} {s : ByteArray}, Tb u y s → y ∉ [tb] := fun hy => by simpa using hy.ne h.blk (by decide)
  refine ⟨⟨h.blk.set 1 _, ⟨h.ow.1, ?_⟩, h.own, fun x hx => ⟨(h.tx x hx).1.ke k (hne (h.tx x hx).1), (h.tx x hx).2⟩, h.ky.ke k (hne h.ky), h.kh, h.k1, h.k2, h.tb⟩, hk⟩
  rcases h.ow.2 with hn | ⟨g, cap, cur, hv, hg, hh, r⟩
  · exact .inl hn
  · exact .inr ⟨g, cap, cur, hv, hg, (show Bk u g _ _ from hh).far (show g ≠ tb from bk_dist hh h.blk (by decide)) _, r⟩
theorem Tm.old {w3 w4 : World} (h : Tm u H B tb key se l A c kb kc) {n : Nat} (hn : l.length = n) (hb : Below u.heap.size u w3) (hg : w3.grownBy w4 (Value.slice A n c).ownBlock) :
    (∃ K, Ke K u w4 ∧ ∀ y ∈ K, y ∈ H ∧ ∃ cs, Bk w3 y 59 cs) ∧ Bk w4 tb 56 #[.slice (some ⟨kb, 0, none⟩) key.size kc, .int .i64 se, .slice A n c] := by
  subst hn
  have hK : ∃ K, Ke K u w4 ∧ ∀ y ∈ K, y ∈ H ∧ ∃ cs, Bk w3 y 59 cs := by
    have hk0 : Ke [] u w3 := Ke.of hb
    cases hown : (Value.slice A l.length c).ownBlock with
    | none => rw [hown] at hg; exact ⟨[], hk0.trans (Ke.grown0 hg), fun y hy => by cases hy⟩
    | some g0 =>
      rw [hown] at hg
      refine ⟨[g0], hk0.nil.trans (Ke.grown hg), fun y hy => ?_⟩
      rw [List.mem_singleton.1 hy]
      obtain ⟨_, _, cs, hc⟩ := Ow.block h.ow l.length g0 hown
      exact ⟨h.own g0 hown, cs, hc.below hb hc.lt⟩
  refine ⟨hK, ?_⟩
  obtain ⟨K, k1, k2⟩ := hK
  refine h.blk.ke k1 fun hx => ?_
  obtain ⟨_, cs, hc⟩ := k2 tb hx
  exact bk_dist (h.on hb).blk hc (by decide) rfl
/-- The row is one longer. -/
theorem Tm.put {w3 w4 : World} (h : Tm u H B tb key se l A c kb kc) {n g4 c4 : Nat} {x : Tq} (hn : l.length = n) (hb : Below u.heap.size u w3) (hg : w3.grownBy w4 (Value.slice A n c).ownBlock)
    (ho4 : Ow 59 5 tqc w4 B (some ⟨g4, 0, none⟩) c4 (l ++ [x])) (hat : (Value.slice A n c).ownBlock = some g4 ∨ g4 = w3.heap.size) (hx : Tb w3 x.g x.tx) (hx2 : x.tx.size ≤ 1099511627776) (hx3 : u.heap.size ≤ x.g) :
    Tm (w4.setCell ⟨tb, 2, none⟩ (.slice (some ⟨g4, 0, none⟩) (n + 1) c4)) (H ++ [g4, x.g]) B tb key se (l ++ [x]) (some ⟨g4, 0, none⟩) c4 kb kc ∧ Sp u (w4.setCell ⟨tb, 2, none⟩ (.slice (some ⟨g4, 0, none⟩) (n + 1) c4)) H (H ++ [g4, x.g]) ∧
    (∀ y ∈ H ++ [g4, x.g], y ∈ H ∨ y < (w4.setCell ⟨tb, 2, none⟩ (.slice (some ⟨g4, 0, none⟩) (n + 1) c4)).heap.size) := by
  obtain ⟨⟨K, k1, k2⟩, hd4⟩ := h.old hn hb hg
  have k3 : Ke (tb :: K) u (w4.setCell ⟨tb, 2, none⟩ (.slice (some ⟨g4, 0, none⟩) (n + 1) c4)) := (k1.more (fun y hy => List.mem_cons_of_mem _ hy)).set (p := ⟨tb, 2, none⟩) (List.mem_cons_self ..) _
  have hsz : w4.heap.size ≤ (w4.setCell ⟨tb, 2, none⟩ (.slice (some ⟨g4, 0, none⟩) (n + 1) c4)).heap.size := by simp [World.setCell]
  have hlen : (l ++ [x]).length = n + 1 := by rw [List.length_append, hn]; rfl
  have hne : ∀ {y : Nat} {s : ByteArray}, Tb u y s → y ∉ tb :: K := fun hy hm => by
    rcases List.mem_cons.1 hm with rfl | hm
    · exact hy.ne h.blk (by decide) rfl
    · obtain ⟨_, cs, hc⟩ := k2 _ hm
      exact (hy.on hb).ne hc (by decide) rfl
  obtain ⟨_, hlt4, cs4, hc4⟩ := Ow.block ho4 (n + 1) g4 rfl
  have hx4 : Tb w4 x.g x.tx := by
    obtain ⟨cs, fr, h1, h2⟩ := hx
    refine ⟨cs, fr, (hg.block x.g (lt_of_block h1) (fun e => ?_)).trans h1, h2⟩
    obtain ⟨_, _, cs2, hc2⟩ := Ow.block h.ow n x.g e.symm
    exact bk_dist h1 (hc2.below hb hc2.lt) (by decide) rfl
  have hs : Sp u (w4.setCell ⟨tb, 2, none⟩ (.slice (some ⟨g4, 0, none⟩) (n + 1) c4)) H (H ++ [g4, x.g]) := by
    refine ⟨k3.more fun y hy => ?_, fun y hy => ?_⟩
    · rcases List.mem_cons.1 hy with rfl | hy
      · exact h.tb
      · exact (k2 y hy).1
    · rcases List.mem_append.1 hy with e | e
      · exact .inl e
      · simp only [List.mem_cons, List.not_mem_nil, or_false] at e
        rcases e with rfl | rfl
        · rcases hat with e1 | e1
          · rw [← hn] at e1; exact .inl (h.own _ e1)
          · right; rw [e1]; exact hb.size
        · exact .inr hx3
  refine ⟨⟨?_, ?_, fun g hgg => ?_, fun y hy => ?_, h.ky.ke k3 (hne h.ky), List.mem_append_left _ h.kh, h.k1, h.k2, List.mem_append_left _ h.tb⟩, hs, fun y hy => ?_⟩
  · rw [hlen]; exact hd4.set 2 _
  · exact Ow.apart ho4 (p := ⟨tb, 2, none⟩) (bk_dist hc4 hd4 (by decide)) _
  · simp [Value.ownBlock] at hgg
    rw [← hgg]; simp
  · rcases List.mem_append.1 hy with e | e
    · have := h.tx y e
      exact ⟨this.1.ke k3 (hne this.1), List.mem_append_left _ this.2.1, this.2.2⟩
    · rw [List.mem_singleton.1 e]
      obtain ⟨cs, fr, h1, h2⟩ := hx4
      exact ⟨⟨cs, fr, (Below.heap_setCell _ _ _ _ (fun e => bk_dist h1 hd4 (by decide) e)).trans h1, h2⟩, by simp, hx2⟩
  · rcases List.mem_append.1 hy with e | e
    · exact .inl e
    · right
      simp only [List.mem_cons, List.not_mem_nil, or_false] at e
      rcases e with rfl | rfl
      · exact Nat.lt_of_lt_of_le hlt4 hsz
      · exact Nat.lt_of_lt_of_le hx4.lt hsz
/-- Between two steps of Issue, a book that has turned. -/
theorem Tz.next {u2 : World} (h : Tz W u H tb key b) {l2 : List Tq} {A2 : Option Addr} {c2 kb2 kc2 : Nat} (hm : Tm u2 H' W.heap.size tb key b'.se l2 A2 c2 kb2 kc2) (hl : l2.map Tq.k = b'.l) (k : Sp u u2 H H') (hlt : ∀ y ∈ H', y ∈ H ∨ y < u2.heap.size) : Tz W u2 H' tb key b' :=
  ⟨⟨l2, A2, c2, kb2, kc2, hm, hl⟩, h.l.trans (k.k.below h.l.size h.lo), fun y hy => by
    rcases k.g y hy with e | e
    · exact h.lo y e
    · exact Nat.le_trans h.l.size e, fun y hy => by
    rcases hlt y hy with e | e
    · exact Nat.lt_of_lt_of_le (h.hi y e) k.k.size
    · exact e⟩
set_option maxRecDepth 100000 in
set_option maxHeartbeats 8000000 in
theorem issue_ok (h : Tz W u H tb key b) (p : Ps) (d : ByteArray) (R : ByteArray × Int × Bt) (hE : issT b p (tixT key d) = R) (hf : b.l.length ≤ 64) (hk : key.size ≤ 3000) (hd : d.size ≤ 1099511627776) (hs : 0 ≤ b.se) (hs2 : b.se ≤ 1000000) (hp1 : p.nm.size ≤ 140737488355328) (hp2 : p.ten.size ≤ 140737488355328) (hG : Gl W) :
    Calls Tryd.prog 18 #[.pointer (some ⟨tb, 0, none⟩), .agg (pcs p), .string d] u fun e u' => ∃ H', e = .returned (.tuple #[.string R.1, .int .i64 R.2.1]) ∧ Tz W u' H' tb key R.2.2 ∧ Sp u u' H H' := by
  obtain ⟨l, A, c, kb, kc, hm, hl⟩ := h.ex
  obtain ⟨n, hn2⟩ : ∃ n, b.l.length = n := ⟨_, rfl⟩
  have hn : l.length = n := by rw [← hn2, ← hl, List.length_map]
  obtain ⟨M, hM⟩ := Int.eq_ofNat_of_zero_le hs
  rw [hn2] at hf
  obtain ⟨pv, pn, pt, pe⟩ := p
  dsimp only at hp1 hp2
  obtain ⟨u1, hu1⟩ : ∃ u1, u.alloc (.cells #[.int .i64 pv, .string pn, .string pt, .int .i64 pe] 31) = u1 := ⟨_, rfl⟩
  obtain ⟨g, hg⟩ : ∃ g, u.heap.size = g := ⟨_, rfl⟩
  have hb1 : Below u.heap.size u u1 := by rw [← hu1]; exact (Below.refl _ _).alloc (Nat.le_refl _) _
  have HB := Lib.hid hb1
  have HZ := Lib.hid (show Bz u1 H g 31 #[.int .i64 pv, .string pn, .string pt, .int .i64 pe] by rw [← hu1, ← hg]; exact Bz.new h.hi _ _)
  have HD := Lib.hid h
  have HE := Lib.hid hE
  have HN2 := Lib.hid hn2
  have HL := Lib.hid hl
  have HN := Lib.hid hn
  have HM := Lib.hid hM
  have HMM := Lib.hid hm
  have HKD := Lib.hid (And.intro hk hd)
  have HPN := Lib.hid (And.intro hp1 hp2)
  have HGL := Lib.hid hG
  have HO := Lib.hid (of_ok (hm.on hb1) (by rw [hn]; exact hf) pv)
  rw [hl] at HO
  have hM2 : M ≤ 1000000 := by omega
  have HF := Lib.hid hf
  have g0 : u1.cell? ⟨g, 0, none⟩ = some (.int .i64 pv) := HZ.out.b.cell 0
  rcases ix_cases (visT pv) b.l with ⟨h0, h1⟩ | ⟨i, x, hx, h0, hv, h1⟩
  · rw [h1] at HO
    have HA := Lib.hid (show b.l.any (visT pv) = false from List.any_eq_false.2 fun y hy => by rw [h0 y hy]; simp)
    clear h hE hb1 hm hl hn hn2 h0 h1 hM hs hs2 hk hd hp1 hp2 hG
    show Calls Tryd.prog 18 #[.pointer (some ⟨tb, 0, none⟩), .agg #[.int .i64 pv, .string pn, .string pt, .int .i64 pe], .string d] u _
    go_enter Tryd.func18, Tryd.ntmps18
    go_upto_region 1 with fail
    try rw [hu1]
    try rw [hg]
    clear hu1 hg
    by_cases h64 : 64 ≤ n
    · have h64b : (n : Int) ≥ 64 := by omega
      have HP := Lib.hid (show R = (⟨#[]⟩, 2, b) from by
        rw [← HE.out]
        unfold issT
        rw [HA.out, if_neg (by simp), if_pos (by rw [HN2.out]; exact h64)])
      go_wp2_with (first
        | (go_at_call 25; (with_reducible refine HO.out.mono ?_); rintro e u2 ⟨rfl, hb⟩; have HB2 := Lib.hid (HB.out.trans (hb.mono HB.out.size)); clear hb)
        | (go_at_call 20; (with_reducible refine (many_ok (HD.out.on HB2.out) n HN2.out).mono ?_); rintro e u3 ⟨rfl, hb⟩; have HB3 := Lib.hid (HB2.out.trans (hb.mono HB2.out.size)); clear hb))
      go_ret2
      have z1 := HD.out.on HB3.out
      have z2 := (Ke.of HB3.out).sp (G := H)
      rw [HP.out]
      first
        | exact ⟨H, rfl, z1, z2⟩
        | exact ⟨rfl, H, z1, z2⟩
    · have h64b : ¬ (n : Int) ≥ 64 := by omega
      have hw : IntKind.i64.wrap ((M : Int) + 1) = ((M + 1 : Nat) : Int) := (iwrap _ (M + 1) (by omega) (by omega)).1
      have HP := Lib.hid (show R = (tixT key d ((M + 1 : Nat) : Int), 0, ⟨((M + 1 : Nat) : Int), b.l ++ [⟨tixT key d ((M + 1 : Nat) : Int), ⟨pv, pn, pt, pe⟩⟩]⟩) from by
        rw [← HE.out]
        unfold issT
        rw [HA.out, if_neg (by simp), if_neg (by rw [HN2.out]; exact h64), HM.out]
        rfl)
      go_upto_region 5 with (first
        | (go_at_call 25; (with_reducible refine HO.out.mono ?_); rintro e u2 ⟨rfl, hb⟩; have HB2 := Lib.hid (HB.out.trans (hb.mono HB.out.size)); have HZ2 := Lib.hid (HZ.out.on hb); clear hb)
        | (go_at_call 20; (with_reducible refine (many_ok (HD.out.on HB2.out) n HN2.out).mono ?_); rintro e u3 ⟨rfl, hb⟩; have HB3 := Lib.hid (HB2.out.trans (hb.mono HB2.out.size)); have HZ3 := Lib.hid (HZ2.out.on hb); clear hb))
      have hbk3 := (HMM.out.on HB3.out).blk
      rw [HM.out] at hbk3
      have c1 : u3.cell? ⟨tb, 1, none⟩ = some (.int .i64 (M : Int)) := hbk3.cell 1
      have f1 := hbk3.frozen 1
      clear hbk3
      go_upto_region 6 with fail
      obtain ⟨N, hN⟩ : ∃ N, M + 1 = N := ⟨_, rfl⟩
      have hNi : ((M : Int) + 1) = (N : Int) := by omega
      have hN2 : N ≤ 1000001 := by omega
      rw [hN] at HP
      try rw [hNi]
      try rw [hN]
      obtain ⟨u4, hu4⟩ : ∃ u4, u3.setCell ⟨tb, 1, none⟩ (.int .i64 (N : Int)) = u4 := ⟨_, rfl⟩
      have hse := (HMM.out.on HB3.out).ser (N : Int)
      rw [hu4] at hse
      have HM4 := Lib.hid hse.1
      have HS4 := Lib.hid (((Ke.of HB3.out).sp (G := H)).trans (Sp.of hse.2))
      have HZ4 := Lib.hid (HZ3.out.step (Sp.of hse.2))
      have HT4 := Lib.hid ((HD.out.on HB3.out).made (b' := ⟨(N : Int), b.l⟩) hse.1 HL.out hse.2)
      have HG4 := Lib.hid (HGL.out.below HT4.out.l HGL.out.size)
      obtain ⟨T, hT⟩ : ∃ T, tixT key d (N : Int) = T := ⟨_, rfl⟩
      have hts : T.size ≤ 1099511627776 := by
        have h1 := prf_size key d (N : Int) (by show N ≤ _; omega)
        rw [← hT]
        unfold tixT
        rw [ByteArray.size_extract]
        omega
      have HCT := Lib.hid (ticket_ok N HM4.out d HKD.out.1 HKD.out.2 hN2 HG4.out)
      rw [hT] at HCT HP
      try rw [hu4]
      clear hu4 hse hT c1 f1 hw h64b hN hNi
      go_upto_region 7 with (go_at_call 26; (with_reducible refine HCT.out.mono ?_); rintro e u5 ⟨rfl, hb⟩; have HB5 := Lib.hid hb; clear hb)
      have HM5 := Lib.hid (HM4.out.on HB5.out)
      have HS5 := Lib.hid (HS4.out.trans ((Ke.of HB5.out).sp (G := H)))
      have HT5 := Lib.hid (HT4.out.on HB5.out)
      have HZ5 := Lib.hid (HZ4.out.on HB5.out)
      have HBK5 := Lib.hid (show Bk u5 tb 56 #[.slice (some ⟨kb, 0, none⟩) key.size kc, .int .i64 (N : Int), .slice A n c] by have := HM5.out.blk; rwa [HN.out] at this)
      have HSW := Lib.hid (show ∀ w, Below u5.heap.size u5 w → Bk w tb 56 #[.slice (some ⟨kb, 0, none⟩) key.size kc, .int .i64 (N : Int), .slice A n c] ∧ Bk w g 31 #[.int .i64 pv, .string pn, .string pt, .int .i64 pe] from fun w hb => ⟨HBK5.out.below hb HBK5.out.lt, HZ5.out.b.below hb HZ5.out.b.lt⟩)
      have HKP := Lib.hid (show ∀ w, Calls Tryd.prog 27 #[.agg #[.int .i64 pv, .string pn, .string pt, .int .i64 pe]] w fun e u' => e = .returned (.agg #[.int .i64 pv, .string pn, .string pt, .int .i64 pe]) ∧ Below w.heap.size w u' from fun w => tkept_ok ⟨pv, pn, pt, pe⟩ w HPN.out.1 HPN.out.2)
      have HTS := Lib.hid hts
      try simp only [List.cons_append, List.nil_append]
      refine wp_region_held_drew (S := fun wz => Bk wz g 31 #[.int .i64 pv, .string pn, .string pt, .int .i64 pe]) (by kernel_rfl) ((HSW.out _ (Below.refl _ _).drew).2) (fun hHeld => ?_)
      refine take_at (some 27) (i := 0) (v := ?_) rfl rfl (by kernel_rfl) (by kernel_rfl) (by kernel_rfl) (fun _ _ _ h => h) (Or.inl ⟨by kernel_rfl, ?_⟩) hHeld ?_
      rotate_left
      · intro wz hSw; go_simp; try (with_reducible rfl)
      try simp only [Act.put, List.setIfInBounds_toArray, List.set_cons_zero, List.set_cons_succ, List.getElem_toArray, List.getElem_cons_succ, List.getElem_cons_zero]
      refine take_at (some 28) (i := 1) (v := ?_) rfl rfl (by kernel_rfl) (by kernel_rfl) (by kernel_rfl) (fun _ _ _ h => h) (Or.inl ⟨by kernel_rfl, ?_⟩) hHeld ?_
      rotate_left
      · intro wz hSw; go_simp; try (with_reducible rfl)
      try simp only [Act.put, List.setIfInBounds_toArray, List.set_cons_zero, List.set_cons_succ, List.getElem_toArray, List.getElem_cons_succ, List.getElem_cons_zero]
      refine take_at (some 29) (i := 2) (v := ?_) rfl rfl (by kernel_rfl) (by kernel_rfl) (by kernel_rfl) (fun _ _ _ h => h) (Or.inl ⟨by kernel_rfl, ?_⟩) hHeld ?_
      rotate_left
      · intro wz hSw; have q3 : wz.cell? ⟨g, 0, none⟩ = some (.int .i64 pv) := hSw.cell 0; have q4 : wz.cell? ⟨g, 1, none⟩ = some (.string pn) := hSw.cell 1; have q5 : wz.cell? ⟨g, 2, none⟩ = some (.string pt) := hSw.cell 2; have q6 : wz.cell? ⟨g, 3, none⟩ = some (.int .i64 pe) := hSw.cell 3; go_simp; try (with_reducible rfl)
      try simp only [Act.put, List.setIfInBounds_toArray, List.set_cons_zero, List.set_cons_succ, List.getElem_toArray, List.getElem_cons_succ, List.getElem_cons_zero]
      refine take_at (some 30) (i := 3) (v := ?_) rfl rfl (by kernel_rfl) (by kernel_rfl) (by kernel_rfl) (fun _ _ _ h => h) (Or.inl ⟨by kernel_rfl, ?_⟩) hHeld ?_
      rotate_left
      · intro wz hSw; have q3 : wz.cell? ⟨g, 0, none⟩ = some (.int .i64 pv) := hSw.cell 0; have q4 : wz.cell? ⟨g, 1, none⟩ = some (.string pn) := hSw.cell 1; have q5 : wz.cell? ⟨g, 2, none⟩ = some (.string pt) := hSw.cell 2; have q6 : wz.cell? ⟨g, 3, none⟩ = some (.int .i64 pe) := hSw.cell 3; go_simp; try (with_reducible rfl)
      try simp only [Act.put, List.setIfInBounds_toArray, List.set_cons_zero, List.set_cons_succ, List.getElem_toArray, List.getElem_cons_succ, List.getElem_cons_zero]
      refine take_at (some 32) (i := 5) (v := ?_) rfl rfl (by kernel_rfl) (by kernel_rfl) (by kernel_rfl) (fun _ _ _ h => h) (Or.inl ⟨by kernel_rfl, ?_⟩) hHeld ?_
      rotate_left
      · intro wz hSw; have q3 : wz.cell? ⟨g, 0, none⟩ = some (.int .i64 pv) := hSw.cell 0; have q4 : wz.cell? ⟨g, 1, none⟩ = some (.string pn) := hSw.cell 1; have q5 : wz.cell? ⟨g, 2, none⟩ = some (.string pt) := hSw.cell 2; have q6 : wz.cell? ⟨g, 3, none⟩ = some (.int .i64 pe) := hSw.cell 3; go_simp; try (with_reducible rfl)
      try simp only [Act.put, List.setIfInBounds_toArray, List.set_cons_zero, List.set_cons_succ, List.getElem_toArray, List.getElem_cons_succ, List.getElem_cons_zero]
      refine take_at (some 34) (i := 7) (v := ?_) rfl rfl (by kernel_rfl) (by kernel_rfl) (by kernel_rfl) (fun _ _ _ h => h) (Or.inl ⟨by kernel_rfl, ?_⟩) hHeld ?_
      rotate_left
      · intro wz hSw; go_simp; try (with_reducible rfl)
      try simp only [Act.put, List.setIfInBounds_toArray, List.set_cons_zero, List.set_cons_succ, List.getElem_toArray, List.getElem_cons_succ, List.getElem_cons_zero]
      obtain ⟨w0, hwd⟩ : ∃ wd, u5.drew = wd := ⟨_, rfl⟩
      have hx0 : Below u5.heap.size u5 w0 := by rw [← hwd]; exact (Below.refl _ _).drew
      try rw [hwd]
      clear hwd
      refine wpAnyH_ready (rs := [4, 6, 8]) (by kernel_rfl) (by simp) (AllReadyH.cons rfl (fun K hK => ?_) (AllReadyH.cons rfl (fun K hK => ?_) (AllReadyH.cons rfl (fun K hK => ?_) (AllReadyH.nil))))
      · rw [if_pos (by kernel_rfl)]
        have q4 : w0.cell? ⟨tb, 2, none⟩ = some (.slice A n c) := (HSW.out _ hx0).1.cell 2
        go_simp
        clear q4
        refine hK.out _ _ (HSW.out _ hx0).2 (fun hHeld => ?_)
        try simp only [Act.put, List.setIfInBounds_toArray, List.set_cons_zero, List.set_cons_succ, List.getElem_toArray, List.getElem_cons_succ, List.getElem_cons_zero]
        refine wpAnyH_ready (rs := [6, 8]) (by kernel_rfl) (by simp) (AllReadyH.cons rfl (fun K hK => ?_) (AllReadyH.cons rfl (fun K hK => ?_) (AllReadyH.nil)))
        · rw [if_pos (by kernel_rfl)]
          go_simp
          refine (HKP.out w0).mono ?_
          rintro e w1 ⟨rfl, hb⟩
          try dsimp only
          have hx1 : Below u5.heap.size u5 w1 := hx0.trans (hb.mono hx0.size)
          clear hb
          refine hK.out _ _ (HSW.out _ hx1).2 (fun hHeld => ?_)
          try simp only [Act.put, List.setIfInBounds_toArray, List.set_cons_zero, List.set_cons_succ, List.getElem_toArray, List.getElem_cons_succ, List.getElem_cons_zero]
          refine wpAnyH_ready (rs := [8]) (by kernel_rfl) (by simp) (AllReadyH.cons rfl (fun K hK => ?_) (AllReadyH.nil))
          · rw [if_pos (by kernel_rfl)]
            obtain ⟨cap, ob, hcb, hcap1, hcap2, htb⟩ := conv_tb T (Nat.le_trans HTS.out (by decide)) w1
            go_simp
            try dsimp only
            obtain ⟨w2, hw1⟩ : ∃ wq, (w1.alloc ob).drew = wq := ⟨_, rfl⟩
            obtain ⟨gk, hgk⟩ : ∃ gk, w1.heap.size = gk := ⟨_, rfl⟩
            have htb2 : Tb w2 gk T := by rw [← hw1, ← hgk]; exact htb
            have hgk5 : u5.heap.size ≤ gk := by rw [← hgk]; exact hx1.size
            try rw [hw1]
            try rw [hgk]
            have hx2 : Below u5.heap.size u5 w2 := by rw [← hw1]; exact (hx1.alloc hx1.size _).drew
            clear hcb htb hw1 hgk
            refine hK.out _ _ (HSW.out _ hx2).2 (fun hHeld => ?_)
            try simp only [Act.put, List.setIfInBounds_toArray, List.set_cons_zero, List.set_cons_succ, List.getElem_toArray, List.getElem_cons_succ, List.getElem_cons_zero]
            refine take_at (some 36) (i := 9) (v := ?_) rfl rfl (by kernel_rfl) (by kernel_rfl) (by kernel_rfl) (fun _ _ _ h => h) (Or.inl ⟨by kernel_rfl, ?_⟩) hHeld ?_
            rotate_left
            · intro wz hSw; go_simp; try (with_reducible rfl)
            try simp only [Act.put, List.setIfInBounds_toArray, List.set_cons_zero, List.set_cons_succ, List.getElem_toArray, List.getElem_cons_succ, List.getElem_cons_zero]
            refine wpAnyH_ready (rs := [10]) (by kernel_rfl) (by simp) (AllReadyH.cons rfl (fun K hK => ?_) (AllReadyH.nil))
            · rw [if_pos (by kernel_rfl)]
              go_simp
              try dsimp only
              obtain ⟨w3, hw5⟩ : ∃ wq, w2.alloc (.cells #[.int .i64 pv, .string pn, .string pt, .int .i64 pe, .slice (some ⟨gk, 0, none⟩) T.size cap] 59) = wq := ⟨_, rfl⟩
              obtain ⟨gw, hgw⟩ : ∃ gw, w2.heap.size = gw := ⟨_, rfl⟩
              have hx3 : Below u5.heap.size u5 w3 := by rw [← hw5]; exact hx2.alloc hx2.size _
              have hbk3 : Bk w3 gw 59 (tqc ⟨⟨pv, pn, pt, pe⟩, T, gk, cap⟩) := by rw [← hw5, ← hgw]; exact Bk.new _ _ _
              have hbb : Below w2.heap.size w2 w3 := by rw [← hw5]; exact (Below.refl _ _).alloc (Nat.le_refl _) _
              have htb3 : Tb w3 gk T := htb2.on hbb
              try rw [hw5]
              try rw [hgw]
              clear hw5 hgw hbb
              refine hK.out _ _ (HSW.out _ hx3).2 (fun hHeld => ?_)
              try simp only [Act.put, List.setIfInBounds_toArray, List.set_cons_zero, List.set_cons_succ, List.getElem_toArray, List.getElem_cons_succ, List.getElem_cons_zero]
              refine wpAnyH_ready (rs := [11]) (by kernel_rfl) (by simp) (AllReadyH.cons rfl (fun K hK => ?_) AllReadyH.nil)
              rw [if_pos (by kernel_rfl)]
              refine op_rows_at (w := w3) roI5 (.tmp 31) (.tmp 37) rfl n rfl HN.out (HM5.out.ow.on hx3) ⟨⟨pv, pn, pt, pe⟩, T, gk, cap⟩ gw 1 rfl (Rw.bk hbk3) (by have := HF.out; omega) (Nat.le_trans HD.out.l.size (Nat.le_trans HS5.out.k.size hx3.size)) (n + 1) rfl ?_
              intro g8 c8 w8 ho hgr hb8 hat
              have hold := HM5.out.old HN.out hx3 hgr
              have hd8 := hold.2
              have hs8 : Bk w8 g 31 #[.int .i64 pv, .string pn, .string pt, .int .i64 pe] := by
                obtain ⟨⟨K8, k1, k2⟩, _⟩ := hold
                exact HZ5.out.b.ke k1 (fun hm => HZ5.out.n (k2 g hm).1)
              have hfin := HM5.out.put (x := ⟨⟨pv, pn, pt, pe⟩, T, gk, cap⟩) HN.out hx3 hgr ho hat htb3 HTS.out hgk5
              have HFIN := Lib.hid (And.intro (HT5.out.next (b' := ⟨(N : Int), b.l ++ [⟨T, ⟨pv, pn, pt, pe⟩⟩]⟩) hfin.1 (by rw [List.map_append, HL.out]; rfl) hfin.2.1 hfin.2.2) (HS5.out.trans hfin.2.1))
              have HS8 := Lib.hid hs8
              refine hK.out _ _ hs8 (fun hHeld => ?_)
              try simp only [Act.put, List.setIfInBounds_toArray, List.set_cons_zero, List.set_cons_succ, List.getElem_toArray, List.getElem_cons_succ, List.getElem_cons_zero]
              clear ho hgr hb8 hat hold hs8 hfin
              refine take_at (some 39) (i := 12) (v := ?_) rfl rfl (by kernel_rfl) (by kernel_rfl) (by kernel_rfl) (fun _ _ _ h => h) (Or.inl ⟨by kernel_rfl, ?_⟩) hHeld ?_
              rotate_left
              · intro wz hSw; go_simp; try (with_reducible rfl)
              try simp only [Act.put, List.setIfInBounds_toArray, List.set_cons_zero, List.set_cons_succ, List.getElem_toArray, List.getElem_cons_succ, List.getElem_cons_zero]
              refine take_at (some 40) (i := 13) (v := ?_) rfl rfl (by kernel_rfl) (by kernel_rfl) (by kernel_rfl) (fun _ _ _ h => h) (Or.inl ⟨by kernel_rfl, ?_⟩) hHeld ?_
              rotate_left
              · intro wz hSw; go_simp; try (with_reducible rfl)
              try simp only [Act.put, List.setIfInBounds_toArray, List.set_cons_zero, List.set_cons_succ, List.getElem_toArray, List.getElem_cons_succ, List.getElem_cons_zero]
              have c8a : w8.cell? ⟨tb, 2, none⟩ = some (.slice A n c) := hd8.cell 2
              have f8 := hd8.frozen 2
              refine wpAnyH_ready (rs := [14]) (by kernel_rfl) (by simp) (AllReadyH.cons rfl (fun K hK => ?_) AllReadyH.nil)
              rw [if_pos (by kernel_rfl)]
              go_simp
              have hs9 : Bk (w8.setCell ⟨tb, 2, none⟩ (.slice (some ⟨g8, 0, none⟩) (n + 1) c8)) g 31 #[.int .i64 pv, .string pn, .string pt, .int .i64 pe] := HS8.out.far (fun e => HZ5.out.n (by rw [e]; exact HM5.out.tb)) _
              obtain ⟨w9, hw9⟩ : ∃ w9, w8.setCell ⟨tb, 2, none⟩ (.slice (some ⟨g8, 0, none⟩) (n + 1) c8) = w9 := ⟨_, rfl⟩
              rw [hw9] at HFIN hs9
              try rw [hw9]
              clear hw9
              refine hK.out _ _ hs9 (fun hHeld => ?_)
              try simp only [Act.put, List.setIfInBounds_toArray, List.set_cons_zero, List.set_cons_succ, List.getElem_toArray, List.getElem_cons_succ, List.getElem_cons_zero]
              refine wpAnyH_done (by kernel_rfl) ?_ _
              clear hHeld hs9
              go_wp2
              go_ret2
              rw [HP.out]
              first
                | exact ⟨_, rfl, HFIN.out.1, HFIN.out.2⟩
                | exact ⟨rfl, _, HFIN.out.1, HFIN.out.2⟩
        · rw [if_pos (by kernel_rfl)]
          obtain ⟨cap, ob, hcb, hcap1, hcap2, htb⟩ := conv_tb T (Nat.le_trans HTS.out (by decide)) w0
          go_simp
          try dsimp only
          obtain ⟨w1, hw1⟩ : ∃ wq, (w0.alloc ob).drew = wq := ⟨_, rfl⟩
          obtain ⟨gk, hgk⟩ : ∃ gk, w0.heap.size = gk := ⟨_, rfl⟩
          have htb1 : Tb w1 gk T := by rw [← hw1, ← hgk]; exact htb
          have hgk5 : u5.heap.size ≤ gk := by rw [← hgk]; exact hx0.size
          try rw [hw1]
          try rw [hgk]
          have hx1 : Below u5.heap.size u5 w1 := by rw [← hw1]; exact (hx0.alloc hx0.size _).drew
          clear hcb htb hw1 hgk
          refine hK.out _ _ (HSW.out _ hx1).2 (fun hHeld => ?_)
          try simp only [Act.put, List.setIfInBounds_toArray, List.set_cons_zero, List.set_cons_succ, List.getElem_toArray, List.getElem_cons_succ, List.getElem_cons_zero]
          refine wpAnyH_ready (rs := [6]) (by kernel_rfl) (by simp) (AllReadyH.cons rfl (fun K hK => ?_) (AllReadyH.nil))
          · rw [if_pos (by kernel_rfl)]
            go_simp
            refine (HKP.out w1).mono ?_
            rintro e w2 ⟨rfl, hb⟩
            try dsimp only
            have hx2 : Below u5.heap.size u5 w2 := hx1.trans (hb.mono hx1.size)
            have htb2 : Tb w2 gk T := htb1.on hb
            clear hb
            refine hK.out _ _ (HSW.out _ hx2).2 (fun hHeld => ?_)
            try simp only [Act.put, List.setIfInBounds_toArray, List.set_cons_zero, List.set_cons_succ, List.getElem_toArray, List.getElem_cons_succ, List.getElem_cons_zero]
            refine take_at (some 36) (i := 9) (v := ?_) rfl rfl (by kernel_rfl) (by kernel_rfl) (by kernel_rfl) (fun _ _ _ h => h) (Or.inl ⟨by kernel_rfl, ?_⟩) hHeld ?_
            rotate_left
            · intro wz hSw; go_simp; try (with_reducible rfl)
            try simp only [Act.put, List.setIfInBounds_toArray, List.set_cons_zero, List.set_cons_succ, List.getElem_toArray, List.getElem_cons_succ, List.getElem_cons_zero]
            refine wpAnyH_ready (rs := [10]) (by kernel_rfl) (by simp) (AllReadyH.cons rfl (fun K hK => ?_) (AllReadyH.nil))
            · rw [if_pos (by kernel_rfl)]
              go_simp
              try dsimp only
              obtain ⟨w3, hw5⟩ : ∃ wq, w2.alloc (.cells #[.int .i64 pv, .string pn, .string pt, .int .i64 pe, .slice (some ⟨gk, 0, none⟩) T.size cap] 59) = wq := ⟨_, rfl⟩
              obtain ⟨gw, hgw⟩ : ∃ gw, w2.heap.size = gw := ⟨_, rfl⟩
              have hx3 : Below u5.heap.size u5 w3 := by rw [← hw5]; exact hx2.alloc hx2.size _
              have hbk3 : Bk w3 gw 59 (tqc ⟨⟨pv, pn, pt, pe⟩, T, gk, cap⟩) := by rw [← hw5, ← hgw]; exact Bk.new _ _ _
              have hbb : Below w2.heap.size w2 w3 := by rw [← hw5]; exact (Below.refl _ _).alloc (Nat.le_refl _) _
              have htb3 : Tb w3 gk T := htb2.on hbb
              try rw [hw5]
              try rw [hgw]
              clear hw5 hgw hbb
              refine hK.out _ _ (HSW.out _ hx3).2 (fun hHeld => ?_)
              try simp only [Act.put, List.setIfInBounds_toArray, List.set_cons_zero, List.set_cons_succ, List.getElem_toArray, List.getElem_cons_succ, List.getElem_cons_zero]
              refine wpAnyH_ready (rs := [11]) (by kernel_rfl) (by simp) (AllReadyH.cons rfl (fun K hK => ?_) AllReadyH.nil)
              rw [if_pos (by kernel_rfl)]
              refine op_rows_at (w := w3) roI5 (.tmp 31) (.tmp 37) rfl n rfl HN.out (HM5.out.ow.on hx3) ⟨⟨pv, pn, pt, pe⟩, T, gk, cap⟩ gw 1 rfl (Rw.bk hbk3) (by have := HF.out; omega) (Nat.le_trans HD.out.l.size (Nat.le_trans HS5.out.k.size hx3.size)) (n + 1) rfl ?_
              intro g8 c8 w8 ho hgr hb8 hat
              have hold := HM5.out.old HN.out hx3 hgr
              have hd8 := hold.2
              have hs8 : Bk w8 g 31 #[.int .i64 pv, .string pn, .string pt, .int .i64 pe] := by
                obtain ⟨⟨K8, k1, k2⟩, _⟩ := hold
                exact HZ5.out.b.ke k1 (fun hm => HZ5.out.n (k2 g hm).1)
              have hfin := HM5.out.put (x := ⟨⟨pv, pn, pt, pe⟩, T, gk, cap⟩) HN.out hx3 hgr ho hat htb3 HTS.out hgk5
              have HFIN := Lib.hid (And.intro (HT5.out.next (b' := ⟨(N : Int), b.l ++ [⟨T, ⟨pv, pn, pt, pe⟩⟩]⟩) hfin.1 (by rw [List.map_append, HL.out]; rfl) hfin.2.1 hfin.2.2) (HS5.out.trans hfin.2.1))
              have HS8 := Lib.hid hs8
              refine hK.out _ _ hs8 (fun hHeld => ?_)
              try simp only [Act.put, List.setIfInBounds_toArray, List.set_cons_zero, List.set_cons_succ, List.getElem_toArray, List.getElem_cons_succ, List.getElem_cons_zero]
              clear ho hgr hb8 hat hold hs8 hfin
              refine take_at (some 39) (i := 12) (v := ?_) rfl rfl (by kernel_rfl) (by kernel_rfl) (by kernel_rfl) (fun _ _ _ h => h) (Or.inl ⟨by kernel_rfl, ?_⟩) hHeld ?_
              rotate_left
              · intro wz hSw; go_simp; try (with_reducible rfl)
              try simp only [Act.put, List.setIfInBounds_toArray, List.set_cons_zero, List.set_cons_succ, List.getElem_toArray, List.getElem_cons_succ, List.getElem_cons_zero]
              refine take_at (some 40) (i := 13) (v := ?_) rfl rfl (by kernel_rfl) (by kernel_rfl) (by kernel_rfl) (fun _ _ _ h => h) (Or.inl ⟨by kernel_rfl, ?_⟩) hHeld ?_
              rotate_left
              · intro wz hSw; go_simp; try (with_reducible rfl)
              try simp only [Act.put, List.setIfInBounds_toArray, List.set_cons_zero, List.set_cons_succ, List.getElem_toArray, List.getElem_cons_succ, List.getElem_cons_zero]
              have c8a : w8.cell? ⟨tb, 2, none⟩ = some (.slice A n c) := hd8.cell 2
              have f8 := hd8.frozen 2
              refine wpAnyH_ready (rs := [14]) (by kernel_rfl) (by simp) (AllReadyH.cons rfl (fun K hK => ?_) AllReadyH.nil)
              rw [if_pos (by kernel_rfl)]
              go_simp
              have hs9 : Bk (w8.setCell ⟨tb, 2, none⟩ (.slice (some ⟨g8, 0, none⟩) (n + 1) c8)) g 31 #[.int .i64 pv, .string pn, .string pt, .int .i64 pe] := HS8.out.far (fun e => HZ5.out.n (by rw [e]; exact HM5.out.tb)) _
              obtain ⟨w9, hw9⟩ : ∃ w9, w8.setCell ⟨tb, 2, none⟩ (.slice (some ⟨g8, 0, none⟩) (n + 1) c8) = w9 := ⟨_, rfl⟩
              rw [hw9] at HFIN hs9
              try rw [hw9]
              clear hw9
              refine hK.out _ _ hs9 (fun hHeld => ?_)
              try simp only [Act.put, List.setIfInBounds_toArray, List.set_cons_zero, List.set_cons_succ, List.getElem_toArray, List.getElem_cons_succ, List.getElem_cons_zero]
              refine wpAnyH_done (by kernel_rfl) ?_ _
              clear hHeld hs9
              go_wp2
              go_ret2
              rw [HP.out]
              first
                | exact ⟨_, rfl, HFIN.out.1, HFIN.out.2⟩
                | exact ⟨rfl, _, HFIN.out.1, HFIN.out.2⟩
      · rw [if_pos (by kernel_rfl)]
        go_simp
        refine (HKP.out w0).mono ?_
        rintro e w1 ⟨rfl, hb⟩
        try dsimp only
        have hx1 : Below u5.heap.size u5 w1 := hx0.trans (hb.mono hx0.size)
        clear hb
        refine hK.out _ _ (HSW.out _ hx1).2 (fun hHeld => ?_)
        try simp only [Act.put, List.setIfInBounds_toArray, List.set_cons_zero, List.set_cons_succ, List.getElem_toArray, List.getElem_cons_succ, List.getElem_cons_zero]
        refine wpAnyH_ready (rs := [4, 8]) (by kernel_rfl) (by simp) (AllReadyH.cons rfl (fun K hK => ?_) (AllReadyH.cons rfl (fun K hK => ?_) (AllReadyH.nil)))
        · rw [if_pos (by kernel_rfl)]
          have q4 : w1.cell? ⟨tb, 2, none⟩ = some (.slice A n c) := (HSW.out _ hx1).1.cell 2
          go_simp
          clear q4
          refine hK.out _ _ (HSW.out _ hx1).2 (fun hHeld => ?_)
          try simp only [Act.put, List.setIfInBounds_toArray, List.set_cons_zero, List.set_cons_succ, List.getElem_toArray, List.getElem_cons_succ, List.getElem_cons_zero]
          refine wpAnyH_ready (rs := [8]) (by kernel_rfl) (by simp) (AllReadyH.cons rfl (fun K hK => ?_) (AllReadyH.nil))
          · rw [if_pos (by kernel_rfl)]
            obtain ⟨cap, ob, hcb, hcap1, hcap2, htb⟩ := conv_tb T (Nat.le_trans HTS.out (by decide)) w1
            go_simp
            try dsimp only
            obtain ⟨w2, hw1⟩ : ∃ wq, (w1.alloc ob).drew = wq := ⟨_, rfl⟩
            obtain ⟨gk, hgk⟩ : ∃ gk, w1.heap.size = gk := ⟨_, rfl⟩
            have htb2 : Tb w2 gk T := by rw [← hw1, ← hgk]; exact htb
            have hgk5 : u5.heap.size ≤ gk := by rw [← hgk]; exact hx1.size
            try rw [hw1]
            try rw [hgk]
            have hx2 : Below u5.heap.size u5 w2 := by rw [← hw1]; exact (hx1.alloc hx1.size _).drew
            clear hcb htb hw1 hgk
            refine hK.out _ _ (HSW.out _ hx2).2 (fun hHeld => ?_)
            try simp only [Act.put, List.setIfInBounds_toArray, List.set_cons_zero, List.set_cons_succ, List.getElem_toArray, List.getElem_cons_succ, List.getElem_cons_zero]
            refine take_at (some 36) (i := 9) (v := ?_) rfl rfl (by kernel_rfl) (by kernel_rfl) (by kernel_rfl) (fun _ _ _ h => h) (Or.inl ⟨by kernel_rfl, ?_⟩) hHeld ?_
            rotate_left
            · intro wz hSw; go_simp; try (with_reducible rfl)
            try simp only [Act.put, List.setIfInBounds_toArray, List.set_cons_zero, List.set_cons_succ, List.getElem_toArray, List.getElem_cons_succ, List.getElem_cons_zero]
            refine wpAnyH_ready (rs := [10]) (by kernel_rfl) (by simp) (AllReadyH.cons rfl (fun K hK => ?_) (AllReadyH.nil))
            · rw [if_pos (by kernel_rfl)]
              go_simp
              try dsimp only
              obtain ⟨w3, hw5⟩ : ∃ wq, w2.alloc (.cells #[.int .i64 pv, .string pn, .string pt, .int .i64 pe, .slice (some ⟨gk, 0, none⟩) T.size cap] 59) = wq := ⟨_, rfl⟩
              obtain ⟨gw, hgw⟩ : ∃ gw, w2.heap.size = gw := ⟨_, rfl⟩
              have hx3 : Below u5.heap.size u5 w3 := by rw [← hw5]; exact hx2.alloc hx2.size _
              have hbk3 : Bk w3 gw 59 (tqc ⟨⟨pv, pn, pt, pe⟩, T, gk, cap⟩) := by rw [← hw5, ← hgw]; exact Bk.new _ _ _
              have hbb : Below w2.heap.size w2 w3 := by rw [← hw5]; exact (Below.refl _ _).alloc (Nat.le_refl _) _
              have htb3 : Tb w3 gk T := htb2.on hbb
              try rw [hw5]
              try rw [hgw]
              clear hw5 hgw hbb
              refine hK.out _ _ (HSW.out _ hx3).2 (fun hHeld => ?_)
              try simp only [Act.put, List.setIfInBounds_toArray, List.set_cons_zero, List.set_cons_succ, List.getElem_toArray, List.getElem_cons_succ, List.getElem_cons_zero]
              refine wpAnyH_ready (rs := [11]) (by kernel_rfl) (by simp) (AllReadyH.cons rfl (fun K hK => ?_) AllReadyH.nil)
              rw [if_pos (by kernel_rfl)]
              refine op_rows_at (w := w3) roI5 (.tmp 31) (.tmp 37) rfl n rfl HN.out (HM5.out.ow.on hx3) ⟨⟨pv, pn, pt, pe⟩, T, gk, cap⟩ gw 1 rfl (Rw.bk hbk3) (by have := HF.out; omega) (Nat.le_trans HD.out.l.size (Nat.le_trans HS5.out.k.size hx3.size)) (n + 1) rfl ?_
              intro g8 c8 w8 ho hgr hb8 hat
              have hold := HM5.out.old HN.out hx3 hgr
              have hd8 := hold.2
              have hs8 : Bk w8 g 31 #[.int .i64 pv, .string pn, .string pt, .int .i64 pe] := by
                obtain ⟨⟨K8, k1, k2⟩, _⟩ := hold
                exact HZ5.out.b.ke k1 (fun hm => HZ5.out.n (k2 g hm).1)
              have hfin := HM5.out.put (x := ⟨⟨pv, pn, pt, pe⟩, T, gk, cap⟩) HN.out hx3 hgr ho hat htb3 HTS.out hgk5
              have HFIN := Lib.hid (And.intro (HT5.out.next (b' := ⟨(N : Int), b.l ++ [⟨T, ⟨pv, pn, pt, pe⟩⟩]⟩) hfin.1 (by rw [List.map_append, HL.out]; rfl) hfin.2.1 hfin.2.2) (HS5.out.trans hfin.2.1))
              have HS8 := Lib.hid hs8
              refine hK.out _ _ hs8 (fun hHeld => ?_)
              try simp only [Act.put, List.setIfInBounds_toArray, List.set_cons_zero, List.set_cons_succ, List.getElem_toArray, List.getElem_cons_succ, List.getElem_cons_zero]
              clear ho hgr hb8 hat hold hs8 hfin
              refine take_at (some 39) (i := 12) (v := ?_) rfl rfl (by kernel_rfl) (by kernel_rfl) (by kernel_rfl) (fun _ _ _ h => h) (Or.inl ⟨by kernel_rfl, ?_⟩) hHeld ?_
              rotate_left
              · intro wz hSw; go_simp; try (with_reducible rfl)
              try simp only [Act.put, List.setIfInBounds_toArray, List.set_cons_zero, List.set_cons_succ, List.getElem_toArray, List.getElem_cons_succ, List.getElem_cons_zero]
              refine take_at (some 40) (i := 13) (v := ?_) rfl rfl (by kernel_rfl) (by kernel_rfl) (by kernel_rfl) (fun _ _ _ h => h) (Or.inl ⟨by kernel_rfl, ?_⟩) hHeld ?_
              rotate_left
              · intro wz hSw; go_simp; try (with_reducible rfl)
              try simp only [Act.put, List.setIfInBounds_toArray, List.set_cons_zero, List.set_cons_succ, List.getElem_toArray, List.getElem_cons_succ, List.getElem_cons_zero]
              have c8a : w8.cell? ⟨tb, 2, none⟩ = some (.slice A n c) := hd8.cell 2
              have f8 := hd8.frozen 2
              refine wpAnyH_ready (rs := [14]) (by kernel_rfl) (by simp) (AllReadyH.cons rfl (fun K hK => ?_) AllReadyH.nil)
              rw [if_pos (by kernel_rfl)]
              go_simp
              have hs9 : Bk (w8.setCell ⟨tb, 2, none⟩ (.slice (some ⟨g8, 0, none⟩) (n + 1) c8)) g 31 #[.int .i64 pv, .string pn, .string pt, .int .i64 pe] := HS8.out.far (fun e => HZ5.out.n (by rw [e]; exact HM5.out.tb)) _
              obtain ⟨w9, hw9⟩ : ∃ w9, w8.setCell ⟨tb, 2, none⟩ (.slice (some ⟨g8, 0, none⟩) (n + 1) c8) = w9 := ⟨_, rfl⟩
              rw [hw9] at HFIN hs9
              try rw [hw9]
              clear hw9
              refine hK.out _ _ hs9 (fun hHeld => ?_)
              try simp only [Act.put, List.setIfInBounds_toArray, List.set_cons_zero, List.set_cons_succ, List.getElem_toArray, List.getElem_cons_succ, List.getElem_cons_zero]
              refine wpAnyH_done (by kernel_rfl) ?_ _
              clear hHeld hs9
              go_wp2
              go_ret2
              rw [HP.out]
              first
                | exact ⟨_, rfl, HFIN.out.1, HFIN.out.2⟩
                | exact ⟨rfl, _, HFIN.out.1, HFIN.out.2⟩
        · rw [if_pos (by kernel_rfl)]
          obtain ⟨cap, ob, hcb, hcap1, hcap2, htb⟩ := conv_tb T (Nat.le_trans HTS.out (by decide)) w1
          go_simp
          try dsimp only
          obtain ⟨w2, hw1⟩ : ∃ wq, (w1.alloc ob).drew = wq := ⟨_, rfl⟩
          obtain ⟨gk, hgk⟩ : ∃ gk, w1.heap.size = gk := ⟨_, rfl⟩
          have htb2 : Tb w2 gk T := by rw [← hw1, ← hgk]; exact htb
          have hgk5 : u5.heap.size ≤ gk := by rw [← hgk]; exact hx1.size
          try rw [hw1]
          try rw [hgk]
          have hx2 : Below u5.heap.size u5 w2 := by rw [← hw1]; exact (hx1.alloc hx1.size _).drew
          clear hcb htb hw1 hgk
          refine hK.out _ _ (HSW.out _ hx2).2 (fun hHeld => ?_)
          try simp only [Act.put, List.setIfInBounds_toArray, List.set_cons_zero, List.set_cons_succ, List.getElem_toArray, List.getElem_cons_succ, List.getElem_cons_zero]
          refine take_at (some 36) (i := 9) (v := ?_) rfl rfl (by kernel_rfl) (by kernel_rfl) (by kernel_rfl) (fun _ _ _ h => h) (Or.inl ⟨by kernel_rfl, ?_⟩) hHeld ?_
          rotate_left
          · intro wz hSw; go_simp; try (with_reducible rfl)
          try simp only [Act.put, List.setIfInBounds_toArray, List.set_cons_zero, List.set_cons_succ, List.getElem_toArray, List.getElem_cons_succ, List.getElem_cons_zero]
          refine wpAnyH_ready (rs := [4, 10]) (by kernel_rfl) (by simp) (AllReadyH.cons rfl (fun K hK => ?_) (AllReadyH.cons rfl (fun K hK => ?_) (AllReadyH.nil)))
          · rw [if_pos (by kernel_rfl)]
            have q4 : w2.cell? ⟨tb, 2, none⟩ = some (.slice A n c) := (HSW.out _ hx2).1.cell 2
            go_simp
            clear q4
            refine hK.out _ _ (HSW.out _ hx2).2 (fun hHeld => ?_)
            try simp only [Act.put, List.setIfInBounds_toArray, List.set_cons_zero, List.set_cons_succ, List.getElem_toArray, List.getElem_cons_succ, List.getElem_cons_zero]
            refine wpAnyH_ready (rs := [10]) (by kernel_rfl) (by simp) (AllReadyH.cons rfl (fun K hK => ?_) (AllReadyH.nil))
            · rw [if_pos (by kernel_rfl)]
              go_simp
              try dsimp only
              obtain ⟨w3, hw5⟩ : ∃ wq, w2.alloc (.cells #[.int .i64 pv, .string pn, .string pt, .int .i64 pe, .slice (some ⟨gk, 0, none⟩) T.size cap] 59) = wq := ⟨_, rfl⟩
              obtain ⟨gw, hgw⟩ : ∃ gw, w2.heap.size = gw := ⟨_, rfl⟩
              have hx3 : Below u5.heap.size u5 w3 := by rw [← hw5]; exact hx2.alloc hx2.size _
              have hbk3 : Bk w3 gw 59 (tqc ⟨⟨pv, pn, pt, pe⟩, T, gk, cap⟩) := by rw [← hw5, ← hgw]; exact Bk.new _ _ _
              have hbb : Below w2.heap.size w2 w3 := by rw [← hw5]; exact (Below.refl _ _).alloc (Nat.le_refl _) _
              have htb3 : Tb w3 gk T := htb2.on hbb
              try rw [hw5]
              try rw [hgw]
              clear hw5 hgw hbb
              refine hK.out _ _ (HSW.out _ hx3).2 (fun hHeld => ?_)
              try simp only [Act.put, List.setIfInBounds_toArray, List.set_cons_zero, List.set_cons_succ, List.getElem_toArray, List.getElem_cons_succ, List.getElem_cons_zero]
              refine wpAnyH_ready (rs := [11]) (by kernel_rfl) (by simp) (AllReadyH.cons rfl (fun K hK => ?_) AllReadyH.nil)
              rw [if_pos (by kernel_rfl)]
              refine op_rows_at (w := w3) roI5 (.tmp 31) (.tmp 37) rfl n rfl HN.out (HM5.out.ow.on hx3) ⟨⟨pv, pn, pt, pe⟩, T, gk, cap⟩ gw 1 rfl (Rw.bk hbk3) (by have := HF.out; omega) (Nat.le_trans HD.out.l.size (Nat.le_trans HS5.out.k.size hx3.size)) (n + 1) rfl ?_
              intro g8 c8 w8 ho hgr hb8 hat
              have hold := HM5.out.old HN.out hx3 hgr
              have hd8 := hold.2
              have hs8 : Bk w8 g 31 #[.int .i64 pv, .string pn, .string pt, .int .i64 pe] := by
                obtain ⟨⟨K8, k1, k2⟩, _⟩ := hold
                exact HZ5.out.b.ke k1 (fun hm => HZ5.out.n (k2 g hm).1)
              have hfin := HM5.out.put (x := ⟨⟨pv, pn, pt, pe⟩, T, gk, cap⟩) HN.out hx3 hgr ho hat htb3 HTS.out hgk5
              have HFIN := Lib.hid (And.intro (HT5.out.next (b' := ⟨(N : Int), b.l ++ [⟨T, ⟨pv, pn, pt, pe⟩⟩]⟩) hfin.1 (by rw [List.map_append, HL.out]; rfl) hfin.2.1 hfin.2.2) (HS5.out.trans hfin.2.1))
              have HS8 := Lib.hid hs8
              refine hK.out _ _ hs8 (fun hHeld => ?_)
              try simp only [Act.put, List.setIfInBounds_toArray, List.set_cons_zero, List.set_cons_succ, List.getElem_toArray, List.getElem_cons_succ, List.getElem_cons_zero]
              clear ho hgr hb8 hat hold hs8 hfin
              refine take_at (some 39) (i := 12) (v := ?_) rfl rfl (by kernel_rfl) (by kernel_rfl) (by kernel_rfl) (fun _ _ _ h => h) (Or.inl ⟨by kernel_rfl, ?_⟩) hHeld ?_
              rotate_left
              · intro wz hSw; go_simp; try (with_reducible rfl)
              try simp only [Act.put, List.setIfInBounds_toArray, List.set_cons_zero, List.set_cons_succ, List.getElem_toArray, List.getElem_cons_succ, List.getElem_cons_zero]
              refine take_at (some 40) (i := 13) (v := ?_) rfl rfl (by kernel_rfl) (by kernel_rfl) (by kernel_rfl) (fun _ _ _ h => h) (Or.inl ⟨by kernel_rfl, ?_⟩) hHeld ?_
              rotate_left
              · intro wz hSw; go_simp; try (with_reducible rfl)
              try simp only [Act.put, List.setIfInBounds_toArray, List.set_cons_zero, List.set_cons_succ, List.getElem_toArray, List.getElem_cons_succ, List.getElem_cons_zero]
              have c8a : w8.cell? ⟨tb, 2, none⟩ = some (.slice A n c) := hd8.cell 2
              have f8 := hd8.frozen 2
              refine wpAnyH_ready (rs := [14]) (by kernel_rfl) (by simp) (AllReadyH.cons rfl (fun K hK => ?_) AllReadyH.nil)
              rw [if_pos (by kernel_rfl)]
              go_simp
              have hs9 : Bk (w8.setCell ⟨tb, 2, none⟩ (.slice (some ⟨g8, 0, none⟩) (n + 1) c8)) g 31 #[.int .i64 pv, .string pn, .string pt, .int .i64 pe] := HS8.out.far (fun e => HZ5.out.n (by rw [e]; exact HM5.out.tb)) _
              obtain ⟨w9, hw9⟩ : ∃ w9, w8.setCell ⟨tb, 2, none⟩ (.slice (some ⟨g8, 0, none⟩) (n + 1) c8) = w9 := ⟨_, rfl⟩
              rw [hw9] at HFIN hs9
              try rw [hw9]
              clear hw9
              refine hK.out _ _ hs9 (fun hHeld => ?_)
              try simp only [Act.put, List.setIfInBounds_toArray, List.set_cons_zero, List.set_cons_succ, List.getElem_toArray, List.getElem_cons_succ, List.getElem_cons_zero]
              refine wpAnyH_done (by kernel_rfl) ?_ _
              clear hHeld hs9
              go_wp2
              go_ret2
              rw [HP.out]
              first
                | exact ⟨_, rfl, HFIN.out.1, HFIN.out.2⟩
                | exact ⟨rfl, _, HFIN.out.1, HFIN.out.2⟩
          · rw [if_pos (by kernel_rfl)]
            go_simp
            try dsimp only
            obtain ⟨w3, hw5⟩ : ∃ wq, w2.alloc (.cells #[.int .i64 pv, .string pn, .string pt, .int .i64 pe, .slice (some ⟨gk, 0, none⟩) T.size cap] 59) = wq := ⟨_, rfl⟩
            obtain ⟨gw, hgw⟩ : ∃ gw, w2.heap.size = gw := ⟨_, rfl⟩
            have hx3 : Below u5.heap.size u5 w3 := by rw [← hw5]; exact hx2.alloc hx2.size _
            have hbk3 : Bk w3 gw 59 (tqc ⟨⟨pv, pn, pt, pe⟩, T, gk, cap⟩) := by rw [← hw5, ← hgw]; exact Bk.new _ _ _
            have hbb : Below w2.heap.size w2 w3 := by rw [← hw5]; exact (Below.refl _ _).alloc (Nat.le_refl _) _
            have htb3 : Tb w3 gk T := htb2.on hbb
            try rw [hw5]
            try rw [hgw]
            clear hw5 hgw hbb
            refine hK.out _ _ (HSW.out _ hx3).2 (fun hHeld => ?_)
            try simp only [Act.put, List.setIfInBounds_toArray, List.set_cons_zero, List.set_cons_succ, List.getElem_toArray, List.getElem_cons_succ, List.getElem_cons_zero]
            refine wpAnyH_ready (rs := [4]) (by kernel_rfl) (by simp) (AllReadyH.cons rfl (fun K hK => ?_) (AllReadyH.nil))
            · rw [if_pos (by kernel_rfl)]
              have q4 : w3.cell? ⟨tb, 2, none⟩ = some (.slice A n c) := (HSW.out _ hx3).1.cell 2
              go_simp
              clear q4
              refine hK.out _ _ (HSW.out _ hx3).2 (fun hHeld => ?_)
              try simp only [Act.put, List.setIfInBounds_toArray, List.set_cons_zero, List.set_cons_succ, List.getElem_toArray, List.getElem_cons_succ, List.getElem_cons_zero]
              refine wpAnyH_ready (rs := [11]) (by kernel_rfl) (by simp) (AllReadyH.cons rfl (fun K hK => ?_) AllReadyH.nil)
              rw [if_pos (by kernel_rfl)]
              refine op_rows_at (w := w3) roI5 (.tmp 31) (.tmp 37) rfl n rfl HN.out (HM5.out.ow.on hx3) ⟨⟨pv, pn, pt, pe⟩, T, gk, cap⟩ gw 1 rfl (Rw.bk hbk3) (by have := HF.out; omega) (Nat.le_trans HD.out.l.size (Nat.le_trans HS5.out.k.size hx3.size)) (n + 1) rfl ?_
              intro g8 c8 w8 ho hgr hb8 hat
              have hold := HM5.out.old HN.out hx3 hgr
              have hd8 := hold.2
              have hs8 : Bk w8 g 31 #[.int .i64 pv, .string pn, .string pt, .int .i64 pe] := by
                obtain ⟨⟨K8, k1, k2⟩, _⟩ := hold
                exact HZ5.out.b.ke k1 (fun hm => HZ5.out.n (k2 g hm).1)
              have hfin := HM5.out.put (x := ⟨⟨pv, pn, pt, pe⟩, T, gk, cap⟩) HN.out hx3 hgr ho hat htb3 HTS.out hgk5
              have HFIN := Lib.hid (And.intro (HT5.out.next (b' := ⟨(N : Int), b.l ++ [⟨T, ⟨pv, pn, pt, pe⟩⟩]⟩) hfin.1 (by rw [List.map_append, HL.out]; rfl) hfin.2.1 hfin.2.2) (HS5.out.trans hfin.2.1))
              have HS8 := Lib.hid hs8
              refine hK.out _ _ hs8 (fun hHeld => ?_)
              try simp only [Act.put, List.setIfInBounds_toArray, List.set_cons_zero, List.set_cons_succ, List.getElem_toArray, List.getElem_cons_succ, List.getElem_cons_zero]
              clear ho hgr hb8 hat hold hs8 hfin
              refine take_at (some 39) (i := 12) (v := ?_) rfl rfl (by kernel_rfl) (by kernel_rfl) (by kernel_rfl) (fun _ _ _ h => h) (Or.inl ⟨by kernel_rfl, ?_⟩) hHeld ?_
              rotate_left
              · intro wz hSw; go_simp; try (with_reducible rfl)
              try simp only [Act.put, List.setIfInBounds_toArray, List.set_cons_zero, List.set_cons_succ, List.getElem_toArray, List.getElem_cons_succ, List.getElem_cons_zero]
              refine take_at (some 40) (i := 13) (v := ?_) rfl rfl (by kernel_rfl) (by kernel_rfl) (by kernel_rfl) (fun _ _ _ h => h) (Or.inl ⟨by kernel_rfl, ?_⟩) hHeld ?_
              rotate_left
              · intro wz hSw; go_simp; try (with_reducible rfl)
              try simp only [Act.put, List.setIfInBounds_toArray, List.set_cons_zero, List.set_cons_succ, List.getElem_toArray, List.getElem_cons_succ, List.getElem_cons_zero]
              have c8a : w8.cell? ⟨tb, 2, none⟩ = some (.slice A n c) := hd8.cell 2
              have f8 := hd8.frozen 2
              refine wpAnyH_ready (rs := [14]) (by kernel_rfl) (by simp) (AllReadyH.cons rfl (fun K hK => ?_) AllReadyH.nil)
              rw [if_pos (by kernel_rfl)]
              go_simp
              have hs9 : Bk (w8.setCell ⟨tb, 2, none⟩ (.slice (some ⟨g8, 0, none⟩) (n + 1) c8)) g 31 #[.int .i64 pv, .string pn, .string pt, .int .i64 pe] := HS8.out.far (fun e => HZ5.out.n (by rw [e]; exact HM5.out.tb)) _
              obtain ⟨w9, hw9⟩ : ∃ w9, w8.setCell ⟨tb, 2, none⟩ (.slice (some ⟨g8, 0, none⟩) (n + 1) c8) = w9 := ⟨_, rfl⟩
              rw [hw9] at HFIN hs9
              try rw [hw9]
              clear hw9
              refine hK.out _ _ hs9 (fun hHeld => ?_)
              try simp only [Act.put, List.setIfInBounds_toArray, List.set_cons_zero, List.set_cons_succ, List.getElem_toArray, List.getElem_cons_succ, List.getElem_cons_zero]
              refine wpAnyH_done (by kernel_rfl) ?_ _
              clear hHeld hs9
              go_wp2
              go_ret2
              rw [HP.out]
              first
                | exact ⟨_, rfl, HFIN.out.1, HFIN.out.2⟩
                | exact ⟨rfl, _, HFIN.out.1, HFIN.out.2⟩
      · rw [if_pos (by kernel_rfl)]
        obtain ⟨cap, ob, hcb, hcap1, hcap2, htb⟩ := conv_tb T (Nat.le_trans HTS.out (by decide)) w0
        go_simp
        try dsimp only
        obtain ⟨w1, hw1⟩ : ∃ wq, (w0.alloc ob).drew = wq := ⟨_, rfl⟩
        obtain ⟨gk, hgk⟩ : ∃ gk, w0.heap.size = gk := ⟨_, rfl⟩
        have htb1 : Tb w1 gk T := by rw [← hw1, ← hgk]; exact htb
        have hgk5 : u5.heap.size ≤ gk := by rw [← hgk]; exact hx0.size
        try rw [hw1]
        try rw [hgk]
        have hx1 : Below u5.heap.size u5 w1 := by rw [← hw1]; exact (hx0.alloc hx0.size _).drew
        clear hcb htb hw1 hgk
        refine hK.out _ _ (HSW.out _ hx1).2 (fun hHeld => ?_)
        try simp only [Act.put, List.setIfInBounds_toArray, List.set_cons_zero, List.set_cons_succ, List.getElem_toArray, List.getElem_cons_succ, List.getElem_cons_zero]
        refine wpAnyH_ready (rs := [4, 6]) (by kernel_rfl) (by simp) (AllReadyH.cons rfl (fun K hK => ?_) (AllReadyH.cons rfl (fun K hK => ?_) (AllReadyH.nil)))
        · rw [if_pos (by kernel_rfl)]
          have q4 : w1.cell? ⟨tb, 2, none⟩ = some (.slice A n c) := (HSW.out _ hx1).1.cell 2
          go_simp
          clear q4
          refine hK.out _ _ (HSW.out _ hx1).2 (fun hHeld => ?_)
          try simp only [Act.put, List.setIfInBounds_toArray, List.set_cons_zero, List.set_cons_succ, List.getElem_toArray, List.getElem_cons_succ, List.getElem_cons_zero]
          refine wpAnyH_ready (rs := [6]) (by kernel_rfl) (by simp) (AllReadyH.cons rfl (fun K hK => ?_) (AllReadyH.nil))
          · rw [if_pos (by kernel_rfl)]
            go_simp
            refine (HKP.out w1).mono ?_
            rintro e w2 ⟨rfl, hb⟩
            try dsimp only
            have hx2 : Below u5.heap.size u5 w2 := hx1.trans (hb.mono hx1.size)
            have htb2 : Tb w2 gk T := htb1.on hb
            clear hb
            refine hK.out _ _ (HSW.out _ hx2).2 (fun hHeld => ?_)
            try simp only [Act.put, List.setIfInBounds_toArray, List.set_cons_zero, List.set_cons_succ, List.getElem_toArray, List.getElem_cons_succ, List.getElem_cons_zero]
            refine take_at (some 36) (i := 9) (v := ?_) rfl rfl (by kernel_rfl) (by kernel_rfl) (by kernel_rfl) (fun _ _ _ h => h) (Or.inl ⟨by kernel_rfl, ?_⟩) hHeld ?_
            rotate_left
            · intro wz hSw; go_simp; try (with_reducible rfl)
            try simp only [Act.put, List.setIfInBounds_toArray, List.set_cons_zero, List.set_cons_succ, List.getElem_toArray, List.getElem_cons_succ, List.getElem_cons_zero]
            refine wpAnyH_ready (rs := [10]) (by kernel_rfl) (by simp) (AllReadyH.cons rfl (fun K hK => ?_) (AllReadyH.nil))
            · rw [if_pos (by kernel_rfl)]
              go_simp
              try dsimp only
              obtain ⟨w3, hw5⟩ : ∃ wq, w2.alloc (.cells #[.int .i64 pv, .string pn, .string pt, .int .i64 pe, .slice (some ⟨gk, 0, none⟩) T.size cap] 59) = wq := ⟨_, rfl⟩
              obtain ⟨gw, hgw⟩ : ∃ gw, w2.heap.size = gw := ⟨_, rfl⟩
              have hx3 : Below u5.heap.size u5 w3 := by rw [← hw5]; exact hx2.alloc hx2.size _
              have hbk3 : Bk w3 gw 59 (tqc ⟨⟨pv, pn, pt, pe⟩, T, gk, cap⟩) := by rw [← hw5, ← hgw]; exact Bk.new _ _ _
              have hbb : Below w2.heap.size w2 w3 := by rw [← hw5]; exact (Below.refl _ _).alloc (Nat.le_refl _) _
              have htb3 : Tb w3 gk T := htb2.on hbb
              try rw [hw5]
              try rw [hgw]
              clear hw5 hgw hbb
              refine hK.out _ _ (HSW.out _ hx3).2 (fun hHeld => ?_)
              try simp only [Act.put, List.setIfInBounds_toArray, List.set_cons_zero, List.set_cons_succ, List.getElem_toArray, List.getElem_cons_succ, List.getElem_cons_zero]
              refine wpAnyH_ready (rs := [11]) (by kernel_rfl) (by simp) (AllReadyH.cons rfl (fun K hK => ?_) AllReadyH.nil)
              rw [if_pos (by kernel_rfl)]
              refine op_rows_at (w := w3) roI5 (.tmp 31) (.tmp 37) rfl n rfl HN.out (HM5.out.ow.on hx3) ⟨⟨pv, pn, pt, pe⟩, T, gk, cap⟩ gw 1 rfl (Rw.bk hbk3) (by have := HF.out; omega) (Nat.le_trans HD.out.l.size (Nat.le_trans HS5.out.k.size hx3.size)) (n + 1) rfl ?_
              intro g8 c8 w8 ho hgr hb8 hat
              have hold := HM5.out.old HN.out hx3 hgr
              have hd8 := hold.2
              have hs8 : Bk w8 g 31 #[.int .i64 pv, .string pn, .string pt, .int .i64 pe] := by
                obtain ⟨⟨K8, k1, k2⟩, _⟩ := hold
                exact HZ5.out.b.ke k1 (fun hm => HZ5.out.n (k2 g hm).1)
              have hfin := HM5.out.put (x := ⟨⟨pv, pn, pt, pe⟩, T, gk, cap⟩) HN.out hx3 hgr ho hat htb3 HTS.out hgk5
              have HFIN := Lib.hid (And.intro (HT5.out.next (b' := ⟨(N : Int), b.l ++ [⟨T, ⟨pv, pn, pt, pe⟩⟩]⟩) hfin.1 (by rw [List.map_append, HL.out]; rfl) hfin.2.1 hfin.2.2) (HS5.out.trans hfin.2.1))
              have HS8 := Lib.hid hs8
              refine hK.out _ _ hs8 (fun hHeld => ?_)
              try simp only [Act.put, List.setIfInBounds_toArray, List.set_cons_zero, List.set_cons_succ, List.getElem_toArray, List.getElem_cons_succ, List.getElem_cons_zero]
              clear ho hgr hb8 hat hold hs8 hfin
              refine take_at (some 39) (i := 12) (v := ?_) rfl rfl (by kernel_rfl) (by kernel_rfl) (by kernel_rfl) (fun _ _ _ h => h) (Or.inl ⟨by kernel_rfl, ?_⟩) hHeld ?_
              rotate_left
              · intro wz hSw; go_simp; try (with_reducible rfl)
              try simp only [Act.put, List.setIfInBounds_toArray, List.set_cons_zero, List.set_cons_succ, List.getElem_toArray, List.getElem_cons_succ, List.getElem_cons_zero]
              refine take_at (some 40) (i := 13) (v := ?_) rfl rfl (by kernel_rfl) (by kernel_rfl) (by kernel_rfl) (fun _ _ _ h => h) (Or.inl ⟨by kernel_rfl, ?_⟩) hHeld ?_
              rotate_left
              · intro wz hSw; go_simp; try (with_reducible rfl)
              try simp only [Act.put, List.setIfInBounds_toArray, List.set_cons_zero, List.set_cons_succ, List.getElem_toArray, List.getElem_cons_succ, List.getElem_cons_zero]
              have c8a : w8.cell? ⟨tb, 2, none⟩ = some (.slice A n c) := hd8.cell 2
              have f8 := hd8.frozen 2
              refine wpAnyH_ready (rs := [14]) (by kernel_rfl) (by simp) (AllReadyH.cons rfl (fun K hK => ?_) AllReadyH.nil)
              rw [if_pos (by kernel_rfl)]
              go_simp
              have hs9 : Bk (w8.setCell ⟨tb, 2, none⟩ (.slice (some ⟨g8, 0, none⟩) (n + 1) c8)) g 31 #[.int .i64 pv, .string pn, .string pt, .int .i64 pe] := HS8.out.far (fun e => HZ5.out.n (by rw [e]; exact HM5.out.tb)) _
              obtain ⟨w9, hw9⟩ : ∃ w9, w8.setCell ⟨tb, 2, none⟩ (.slice (some ⟨g8, 0, none⟩) (n + 1) c8) = w9 := ⟨_, rfl⟩
              rw [hw9] at HFIN hs9
              try rw [hw9]
              clear hw9
              refine hK.out _ _ hs9 (fun hHeld => ?_)
              try simp only [Act.put, List.setIfInBounds_toArray, List.set_cons_zero, List.set_cons_succ, List.getElem_toArray, List.getElem_cons_succ, List.getElem_cons_zero]
              refine wpAnyH_done (by kernel_rfl) ?_ _
              clear hHeld hs9
              go_wp2
              go_ret2
              rw [HP.out]
              first
                | exact ⟨_, rfl, HFIN.out.1, HFIN.out.2⟩
                | exact ⟨rfl, _, HFIN.out.1, HFIN.out.2⟩
        · rw [if_pos (by kernel_rfl)]
          go_simp
          refine (HKP.out w1).mono ?_
          rintro e w2 ⟨rfl, hb⟩
          try dsimp only
          have hx2 : Below u5.heap.size u5 w2 := hx1.trans (hb.mono hx1.size)
          have htb2 : Tb w2 gk T := htb1.on hb
          clear hb
          refine hK.out _ _ (HSW.out _ hx2).2 (fun hHeld => ?_)
          try simp only [Act.put, List.setIfInBounds_toArray, List.set_cons_zero, List.set_cons_succ, List.getElem_toArray, List.getElem_cons_succ, List.getElem_cons_zero]
          refine take_at (some 36) (i := 9) (v := ?_) rfl rfl (by kernel_rfl) (by kernel_rfl) (by kernel_rfl) (fun _ _ _ h => h) (Or.inl ⟨by kernel_rfl, ?_⟩) hHeld ?_
          rotate_left
          · intro wz hSw; go_simp; try (with_reducible rfl)
          try simp only [Act.put, List.setIfInBounds_toArray, List.set_cons_zero, List.set_cons_succ, List.getElem_toArray, List.getElem_cons_succ, List.getElem_cons_zero]
          refine wpAnyH_ready (rs := [4, 10]) (by kernel_rfl) (by simp) (AllReadyH.cons rfl (fun K hK => ?_) (AllReadyH.cons rfl (fun K hK => ?_) (AllReadyH.nil)))
          · rw [if_pos (by kernel_rfl)]
            have q4 : w2.cell? ⟨tb, 2, none⟩ = some (.slice A n c) := (HSW.out _ hx2).1.cell 2
            go_simp
            clear q4
            refine hK.out _ _ (HSW.out _ hx2).2 (fun hHeld => ?_)
            try simp only [Act.put, List.setIfInBounds_toArray, List.set_cons_zero, List.set_cons_succ, List.getElem_toArray, List.getElem_cons_succ, List.getElem_cons_zero]
            refine wpAnyH_ready (rs := [10]) (by kernel_rfl) (by simp) (AllReadyH.cons rfl (fun K hK => ?_) (AllReadyH.nil))
            · rw [if_pos (by kernel_rfl)]
              go_simp
              try dsimp only
              obtain ⟨w3, hw5⟩ : ∃ wq, w2.alloc (.cells #[.int .i64 pv, .string pn, .string pt, .int .i64 pe, .slice (some ⟨gk, 0, none⟩) T.size cap] 59) = wq := ⟨_, rfl⟩
              obtain ⟨gw, hgw⟩ : ∃ gw, w2.heap.size = gw := ⟨_, rfl⟩
              have hx3 : Below u5.heap.size u5 w3 := by rw [← hw5]; exact hx2.alloc hx2.size _
              have hbk3 : Bk w3 gw 59 (tqc ⟨⟨pv, pn, pt, pe⟩, T, gk, cap⟩) := by rw [← hw5, ← hgw]; exact Bk.new _ _ _
              have hbb : Below w2.heap.size w2 w3 := by rw [← hw5]; exact (Below.refl _ _).alloc (Nat.le_refl _) _
              have htb3 : Tb w3 gk T := htb2.on hbb
              try rw [hw5]
              try rw [hgw]
              clear hw5 hgw hbb
              refine hK.out _ _ (HSW.out _ hx3).2 (fun hHeld => ?_)
              try simp only [Act.put, List.setIfInBounds_toArray, List.set_cons_zero, List.set_cons_succ, List.getElem_toArray, List.getElem_cons_succ, List.getElem_cons_zero]
              refine wpAnyH_ready (rs := [11]) (by kernel_rfl) (by simp) (AllReadyH.cons rfl (fun K hK => ?_) AllReadyH.nil)
              rw [if_pos (by kernel_rfl)]
              refine op_rows_at (w := w3) roI5 (.tmp 31) (.tmp 37) rfl n rfl HN.out (HM5.out.ow.on hx3) ⟨⟨pv, pn, pt, pe⟩, T, gk, cap⟩ gw 1 rfl (Rw.bk hbk3) (by have := HF.out; omega) (Nat.le_trans HD.out.l.size (Nat.le_trans HS5.out.k.size hx3.size)) (n + 1) rfl ?_
              intro g8 c8 w8 ho hgr hb8 hat
              have hold := HM5.out.old HN.out hx3 hgr
              have hd8 := hold.2
              have hs8 : Bk w8 g 31 #[.int .i64 pv, .string pn, .string pt, .int .i64 pe] := by
                obtain ⟨⟨K8, k1, k2⟩, _⟩ := hold
                exact HZ5.out.b.ke k1 (fun hm => HZ5.out.n (k2 g hm).1)
              have hfin := HM5.out.put (x := ⟨⟨pv, pn, pt, pe⟩, T, gk, cap⟩) HN.out hx3 hgr ho hat htb3 HTS.out hgk5
              have HFIN := Lib.hid (And.intro (HT5.out.next (b' := ⟨(N : Int), b.l ++ [⟨T, ⟨pv, pn, pt, pe⟩⟩]⟩) hfin.1 (by rw [List.map_append, HL.out]; rfl) hfin.2.1 hfin.2.2) (HS5.out.trans hfin.2.1))
              have HS8 := Lib.hid hs8
              refine hK.out _ _ hs8 (fun hHeld => ?_)
              try simp only [Act.put, List.setIfInBounds_toArray, List.set_cons_zero, List.set_cons_succ, List.getElem_toArray, List.getElem_cons_succ, List.getElem_cons_zero]
              clear ho hgr hb8 hat hold hs8 hfin
              refine take_at (some 39) (i := 12) (v := ?_) rfl rfl (by kernel_rfl) (by kernel_rfl) (by kernel_rfl) (fun _ _ _ h => h) (Or.inl ⟨by kernel_rfl, ?_⟩) hHeld ?_
              rotate_left
              · intro wz hSw; go_simp; try (with_reducible rfl)
              try simp only [Act.put, List.setIfInBounds_toArray, List.set_cons_zero, List.set_cons_succ, List.getElem_toArray, List.getElem_cons_succ, List.getElem_cons_zero]
              refine take_at (some 40) (i := 13) (v := ?_) rfl rfl (by kernel_rfl) (by kernel_rfl) (by kernel_rfl) (fun _ _ _ h => h) (Or.inl ⟨by kernel_rfl, ?_⟩) hHeld ?_
              rotate_left
              · intro wz hSw; go_simp; try (with_reducible rfl)
              try simp only [Act.put, List.setIfInBounds_toArray, List.set_cons_zero, List.set_cons_succ, List.getElem_toArray, List.getElem_cons_succ, List.getElem_cons_zero]
              have c8a : w8.cell? ⟨tb, 2, none⟩ = some (.slice A n c) := hd8.cell 2
              have f8 := hd8.frozen 2
              refine wpAnyH_ready (rs := [14]) (by kernel_rfl) (by simp) (AllReadyH.cons rfl (fun K hK => ?_) AllReadyH.nil)
              rw [if_pos (by kernel_rfl)]
              go_simp
              have hs9 : Bk (w8.setCell ⟨tb, 2, none⟩ (.slice (some ⟨g8, 0, none⟩) (n + 1) c8)) g 31 #[.int .i64 pv, .string pn, .string pt, .int .i64 pe] := HS8.out.far (fun e => HZ5.out.n (by rw [e]; exact HM5.out.tb)) _
              obtain ⟨w9, hw9⟩ : ∃ w9, w8.setCell ⟨tb, 2, none⟩ (.slice (some ⟨g8, 0, none⟩) (n + 1) c8) = w9 := ⟨_, rfl⟩
              rw [hw9] at HFIN hs9
              try rw [hw9]
              clear hw9
              refine hK.out _ _ hs9 (fun hHeld => ?_)
              try simp only [Act.put, List.setIfInBounds_toArray, List.set_cons_zero, List.set_cons_succ, List.getElem_toArray, List.getElem_cons_succ, List.getElem_cons_zero]
              refine wpAnyH_done (by kernel_rfl) ?_ _
              clear hHeld hs9
              go_wp2
              go_ret2
              rw [HP.out]
              first
                | exact ⟨_, rfl, HFIN.out.1, HFIN.out.2⟩
                | exact ⟨rfl, _, HFIN.out.1, HFIN.out.2⟩
          · rw [if_pos (by kernel_rfl)]
            go_simp
            try dsimp only
            obtain ⟨w3, hw5⟩ : ∃ wq, w2.alloc (.cells #[.int .i64 pv, .string pn, .string pt, .int .i64 pe, .slice (some ⟨gk, 0, none⟩) T.size cap] 59) = wq := ⟨_, rfl⟩
            obtain ⟨gw, hgw⟩ : ∃ gw, w2.heap.size = gw := ⟨_, rfl⟩
            have hx3 : Below u5.heap.size u5 w3 := by rw [← hw5]; exact hx2.alloc hx2.size _
            have hbk3 : Bk w3 gw 59 (tqc ⟨⟨pv, pn, pt, pe⟩, T, gk, cap⟩) := by rw [← hw5, ← hgw]; exact Bk.new _ _ _
            have hbb : Below w2.heap.size w2 w3 := by rw [← hw5]; exact (Below.refl _ _).alloc (Nat.le_refl _) _
            have htb3 : Tb w3 gk T := htb2.on hbb
            try rw [hw5]
            try rw [hgw]
            clear hw5 hgw hbb
            refine hK.out _ _ (HSW.out _ hx3).2 (fun hHeld => ?_)
            try simp only [Act.put, List.setIfInBounds_toArray, List.set_cons_zero, List.set_cons_succ, List.getElem_toArray, List.getElem_cons_succ, List.getElem_cons_zero]
            refine wpAnyH_ready (rs := [4]) (by kernel_rfl) (by simp) (AllReadyH.cons rfl (fun K hK => ?_) (AllReadyH.nil))
            · rw [if_pos (by kernel_rfl)]
              have q4 : w3.cell? ⟨tb, 2, none⟩ = some (.slice A n c) := (HSW.out _ hx3).1.cell 2
              go_simp
              clear q4
              refine hK.out _ _ (HSW.out _ hx3).2 (fun hHeld => ?_)
              try simp only [Act.put, List.setIfInBounds_toArray, List.set_cons_zero, List.set_cons_succ, List.getElem_toArray, List.getElem_cons_succ, List.getElem_cons_zero]
              refine wpAnyH_ready (rs := [11]) (by kernel_rfl) (by simp) (AllReadyH.cons rfl (fun K hK => ?_) AllReadyH.nil)
              rw [if_pos (by kernel_rfl)]
              refine op_rows_at (w := w3) roI5 (.tmp 31) (.tmp 37) rfl n rfl HN.out (HM5.out.ow.on hx3) ⟨⟨pv, pn, pt, pe⟩, T, gk, cap⟩ gw 1 rfl (Rw.bk hbk3) (by have := HF.out; omega) (Nat.le_trans HD.out.l.size (Nat.le_trans HS5.out.k.size hx3.size)) (n + 1) rfl ?_
              intro g8 c8 w8 ho hgr hb8 hat
              have hold := HM5.out.old HN.out hx3 hgr
              have hd8 := hold.2
              have hs8 : Bk w8 g 31 #[.int .i64 pv, .string pn, .string pt, .int .i64 pe] := by
                obtain ⟨⟨K8, k1, k2⟩, _⟩ := hold
                exact HZ5.out.b.ke k1 (fun hm => HZ5.out.n (k2 g hm).1)
              have hfin := HM5.out.put (x := ⟨⟨pv, pn, pt, pe⟩, T, gk, cap⟩) HN.out hx3 hgr ho hat htb3 HTS.out hgk5
              have HFIN := Lib.hid (And.intro (HT5.out.next (b' := ⟨(N : Int), b.l ++ [⟨T, ⟨pv, pn, pt, pe⟩⟩]⟩) hfin.1 (by rw [List.map_append, HL.out]; rfl) hfin.2.1 hfin.2.2) (HS5.out.trans hfin.2.1))
              have HS8 := Lib.hid hs8
              refine hK.out _ _ hs8 (fun hHeld => ?_)
              try simp only [Act.put, List.setIfInBounds_toArray, List.set_cons_zero, List.set_cons_succ, List.getElem_toArray, List.getElem_cons_succ, List.getElem_cons_zero]
              clear ho hgr hb8 hat hold hs8 hfin
              refine take_at (some 39) (i := 12) (v := ?_) rfl rfl (by kernel_rfl) (by kernel_rfl) (by kernel_rfl) (fun _ _ _ h => h) (Or.inl ⟨by kernel_rfl, ?_⟩) hHeld ?_
              rotate_left
              · intro wz hSw; go_simp; try (with_reducible rfl)
              try simp only [Act.put, List.setIfInBounds_toArray, List.set_cons_zero, List.set_cons_succ, List.getElem_toArray, List.getElem_cons_succ, List.getElem_cons_zero]
              refine take_at (some 40) (i := 13) (v := ?_) rfl rfl (by kernel_rfl) (by kernel_rfl) (by kernel_rfl) (fun _ _ _ h => h) (Or.inl ⟨by kernel_rfl, ?_⟩) hHeld ?_
              rotate_left
              · intro wz hSw; go_simp; try (with_reducible rfl)
              try simp only [Act.put, List.setIfInBounds_toArray, List.set_cons_zero, List.set_cons_succ, List.getElem_toArray, List.getElem_cons_succ, List.getElem_cons_zero]
              have c8a : w8.cell? ⟨tb, 2, none⟩ = some (.slice A n c) := hd8.cell 2
              have f8 := hd8.frozen 2
              refine wpAnyH_ready (rs := [14]) (by kernel_rfl) (by simp) (AllReadyH.cons rfl (fun K hK => ?_) AllReadyH.nil)
              rw [if_pos (by kernel_rfl)]
              go_simp
              have hs9 : Bk (w8.setCell ⟨tb, 2, none⟩ (.slice (some ⟨g8, 0, none⟩) (n + 1) c8)) g 31 #[.int .i64 pv, .string pn, .string pt, .int .i64 pe] := HS8.out.far (fun e => HZ5.out.n (by rw [e]; exact HM5.out.tb)) _
              obtain ⟨w9, hw9⟩ : ∃ w9, w8.setCell ⟨tb, 2, none⟩ (.slice (some ⟨g8, 0, none⟩) (n + 1) c8) = w9 := ⟨_, rfl⟩
              rw [hw9] at HFIN hs9
              try rw [hw9]
              clear hw9
              refine hK.out _ _ hs9 (fun hHeld => ?_)
              try simp only [Act.put, List.setIfInBounds_toArray, List.set_cons_zero, List.set_cons_succ, List.getElem_toArray, List.getElem_cons_succ, List.getElem_cons_zero]
              refine wpAnyH_done (by kernel_rfl) ?_ _
              clear hHeld hs9
              go_wp2
              go_ret2
              rw [HP.out]
              first
                | exact ⟨_, rfl, HFIN.out.1, HFIN.out.2⟩
                | exact ⟨rfl, _, HFIN.out.1, HFIN.out.2⟩
  · rw [h1] at HO
    have HP := Lib.hid (show R = (⟨#[]⟩, 4, b) from by
      rw [← HE.out]
      unfold issT
      rw [if_pos (List.any_eq_true.2 ⟨x, List.mem_of_getElem? hx, hv⟩)])
    have h2 : (i : Int) ≥ 0 := by omega
    clear h hE hb1 hm hl hn hn2 h0 h1 hM hs hs2 hk hd hp1 hp2 hG hx hv
    show Calls Tryd.prog 18 #[.pointer (some ⟨tb, 0, none⟩), .agg #[.int .i64 pv, .string pn, .string pt, .int .i64 pe], .string d] u _
    go_enter Tryd.func18, Tryd.ntmps18
    go_upto_region 1 with fail
    try rw [hu1]
    try rw [hg]
    clear hu1 hg
    go_wp2_with (go_at_call 25; (with_reducible refine HO.out.mono ?_); rintro e u2 ⟨rfl, hb⟩; have HB2 := Lib.hid (HB.out.trans (hb.mono HB.out.size)); clear hb)
    go_ret2
    have z1 := HD.out.on HB2.out
    have z2 := (Ke.of HB2.out).sp (G := H)
    rw [HP.out]
    first
      | exact ⟨H, rfl, z1, z2⟩
      | exact ⟨rfl, H, z1, z2⟩
end
end Go.Proofs.YtinbegnojfpeiaaDoor
