/- QuR2, QuP: texts of this seat, one behind the other. -/
import Derived.Test.YtikkiifcnjiegaaG11
/- The document's own queue: New, Put, Drop, Take: their contracts. -/
namespace Go.Proofs.Ytikkiifcnjiegaa
set_option linter.unusedVariables false
set_option maxRecDepth 100000
set_option linter.unusedSimpArgs false
open Go.RowKit

section
variable {W u u' : World} {H H' : List Nat} {db : Nat} {q q' : List Qn}
theorem Dq.few (h : Dq W u H db q) : q.length ≤ 9223372036854775807 := by
  obtain ⟨A, c, _, h2, _⟩ := h.ex
  have h3 := (Ow.fit h2).cap
  have h4 := (Ow.fit h2).max
  omega
set_option maxRecDepth 100000 in
set_option maxHeartbeats 1000000 in
theorem d_new (h : Below W.heap.size W u) : Calls Try.prog 11 #[] u fun e u' => ∃ H db, e = .returned (.pointer (some ⟨db, 0, none⟩)) ∧ Dq W u' H db [] ∧ Below u.heap.size u u' ∧ ∀ y ∈ H, u.heap.size ≤ y := by
  have HB := Lib.hid h
  have hs := h.size
  go_enter Try.func11, Try.ntmps11
  go_wp2
  go_ret
  have hb := (Below.refl u.heap.size u).alloc (Nat.le_refl _) (.cells #[.slice none 0 0] 41)
  exact ⟨[u.heap.size], u.heap.size, rfl, ⟨⟨none, 0, Bk.new _ _ _, Ow.nil _ _, fun g hg => by cases hg⟩, by simp, HB.out.trans (hb.mono hs), (fun y hy => by rw [List.mem_singleton.1 hy]; exact hs), (fun y hy => by rw [List.mem_singleton.1 hy, World.size_alloc]; omega)⟩, hb, fun y hy => by rw [List.mem_singleton.1 hy]; exact Nat.le_refl _⟩
set_option maxRecDepth 100000 in
set_option maxHeartbeats 4000000 in
theorem d_put (h : Dq W u H db q) (s : ByteArray) (id : Int) (E : Int) (q' : List Qn) (hE : puQ q s id = (E, q')) (hq : q.length ≤ 64) :
    Calls Try.prog 18 #[.pointer (some ⟨db, 0, none⟩), .string s, .int .i64 id] u fun e u' => ∃ H', e = .returned (.int .i64 E) ∧ Dq W u' H' db q' ∧ Sp u u' H H' := by
  obtain ⟨wn, hwn⟩ : ∃ wn, whN q id = wn := ⟨_, rfl⟩
  obtain ⟨l, hl⟩ : ∃ l, liQ q s = l := ⟨_, rfl⟩
  obtain ⟨n, hn⟩ : ∃ n, l.length = n := ⟨_, rfl⟩
  have hnq : n ≤ 64 := by rw [← hn, ← hl]; exact Nat.le_trans (li_le q s) hq
  obtain ⟨m, hm⟩ : ∃ m, q.length = m := ⟨_, rfl⟩
  have HZ := Lib.hid h
  have HL := Lib.hid (d_list h s l n ⟨hl, hn⟩ hq)
  have HM := Lib.hid hm
  rcases pu_cases q s id with ⟨hw, hp⟩ | ⟨hw, hfull, hp⟩ | ⟨hw, h8, h64, hp⟩
  · have HW := Lib.hid (d_where h id wn true ⟨hwn, hw⟩ hq)
    rw [hp] at hE
    injection hE with e1 e2
    subst e1; subst e2
    clear h hp hw hwn hl hn hm
    go_enter Try.func18, Try.ntmps18
    go_wp2_with (go_at_call 20; (with_reducible refine HW.out.mono ?_); rintro e ux ⟨rfl, hu⟩; rw [hu]; clear hu)
    go_ret
    exact ⟨H, rfl, HZ.out, Sp.refl _ _⟩
  · have HW := Lib.hid (d_where h id wn false ⟨hwn, hw⟩ hq)
    rw [hp] at hE
    injection hE with e1 e2
    subst e1; subst e2
    rw [hl, hn, hm] at hfull
    obtain ⟨A, c, h1, h2, h3⟩ := h.ex
    have HC := Lib.hid (fun w (hb : Below u.heap.size u w) => show w.cell? ⟨db, 0, none⟩ = some (.slice A q.length c) from (h1.below hb h1.lt).cell 0)
    simp only [hm] at HC
    clear h hp hw hwn hl hn hm h1 h2 h3
    by_cases h8 : n ≥ 8
    · have h8b : (n : Int) ≥ 8 := by omega
      go_enter Try.func18, Try.ntmps18
      go_wp2_with (first
        | (go_at_call 20; (with_reducible refine HW.out.mono ?_); rintro e ux ⟨rfl, hu⟩; rw [hu]; clear hu)
        | (go_at_call 24; (with_reducible refine HL.out.mono ?_); rintro e u2 ⟨A2, c2, rfl, h1, h2⟩; have HB2 := Lib.hid h2; clear h1 h2))
      go_ret
      exact ⟨H, rfl, HZ.out.on HB2.out, (Ke.of HB2.out).sp⟩
    · have h8b : ¬ (n : Int) ≥ 8 := by omega
      have h8c : decide ((n : Int) ≥ 8) = false := decide_eq_false h8b
      have h8d : decide ((8 : Int) ≤ (n : Int)) = false := decide_eq_false h8b
      have h64 : (m : Int) ≥ 64 := by omega
      go_enter Try.func18, Try.ntmps18
      go_wp2_with (first
        | (go_at_call 20; (with_reducible refine HW.out.mono ?_); rintro e ux ⟨rfl, hu⟩; rw [hu]; clear hu)
        | (go_at_call 24; (with_reducible refine HL.out.mono ?_); rintro e u2 ⟨A2, c2, rfl, h1, h2⟩; have HB2 := Lib.hid h2; have d0 := HC.out u2 h2; clear h1 h2))
      go_ret
      exact ⟨H, rfl, HZ.out.on HB2.out, (Ke.of HB2.out).sp⟩
  · have HW := Lib.hid (d_where h id wn false ⟨hwn, hw⟩ hq)
    rw [hp] at hE
    injection hE with e1 e2
    subst e1; subst e2
    rw [hl, hn] at h8
    rw [hm] at h64
    obtain ⟨A, c, h1, h2, h3⟩ := h.ex
    have HC := Lib.hid (fun w (hb : Below u.heap.size u w) => show w.cell? ⟨db, 0, none⟩ = some (.slice A q.length c) from (h1.below hb h1.lt).cell 0)
    have HBK := Lib.hid h1
    have HOW := Lib.hid h2
    have HOG := Lib.hid h3
    simp only [hm] at HC
    have h8b : ¬ (n : Int) ≥ 8 := by omega
    have h8c : decide ((n : Int) ≥ 8) = false := decide_eq_false h8b
    have h8d : decide ((8 : Int) ≤ (n : Int)) = false := decide_eq_false h8b
    have h64b : ¬ (m : Int) ≥ 64 := by omega
    have h64c : decide ((m : Int) ≥ 64) = false := decide_eq_false h64b
    have h64d : decide ((64 : Int) ≤ (m : Int)) = false := decide_eq_false h64b
    clear h hp hw hwn hl hn hm h1 h2 h3
    go_enter Try.func18, Try.ntmps18
    go_upto_region 6 with (first
      | (go_at_call 20; (with_reducible refine HW.out.mono ?_); rintro e ux ⟨rfl, hu⟩; rw [hu]; clear hu)
      | (go_at_call 24; (with_reducible refine HL.out.mono ?_); rintro e u2 ⟨A2, c2, rfl, h1, h2⟩; have HB2 := Lib.hid h2; have d0 := HC.out u2 h2; clear h1 h2))
    have HO3 := Lib.hid (show Ow 58 2 oqc (u2.alloc (.cells #[.string s, .int .i64 id] 58)) W.heap.size A c q from (HOW.out.on HB2.out).on ((Below.refl _ _).alloc (Nat.le_refl _) _))
    have HRX := Lib.hid (Rw.bk (f := oqc) (k := 2) (x := (⟨s, id⟩ : Qn)) (Bk.new u2 58 #[.string s, .int .i64 id]))
    have HS3 := Lib.hid (show W.heap.size ≤ (u2.alloc (.cells #[.string s, .int .i64 id] 58)).heap.size by have := HZ.out.l.size; have := HB2.out.size; rw [World.size_alloc]; omega)
    have HB3 := Lib.hid (HB2.out.alloc HB2.out.size (.cells #[.string s, .int .i64 id] 58))
    go_upto_region 7 with (at_builtin; refine wp_rows_at roO rfl (.tmp 33) (.tmp 37) rfl m rfl HM.out HO3.out (⟨s, id⟩ : Qn) u2.heap.size 1 rfl HRX.out (by omega) HS3.out (m + 1) rfl ?_; intro g4 c4 w4 ho hg hb hat; have HO4 := Lib.hid ho; have HG4 := Lib.hid (And.intro hg hat); have HK4 := Lib.hid (show ∃ K, Ke K u w4 ∧ ∀ y ∈ K, y ∈ H ∧ ∃ cs, Bk u y 58 cs from by
        have hk0 : Ke [] u (u2.alloc (.cells #[.string s, .int .i64 id] 58)) := Ke.of HB3.out
        cases hown : (Value.slice A m c).ownBlock with
        | none => rw [hown] at hg; exact ⟨[], hk0.trans (Ke.grown0 hg), fun y hy => by cases hy⟩
        | some g0 =>
          rw [hown] at hg
          refine ⟨[g0], hk0.nil.trans (Ke.grown hg), fun y hy => ?_⟩
          rw [List.mem_singleton.1 hy]
          rw [← HM.out] at hown
          obtain ⟨_, _, cs, hc⟩ := Ow.block HOW.out q.length g0 hown
          exact ⟨HOG.out g0 hown, cs, hc⟩); have HDB := Lib.hid (show Bk w4 db 41 #[.slice A q.length c] from by
        obtain ⟨K, k1, k2⟩ := HK4.out
        refine HBK.out.ke k1 fun hx => ?_
        obtain ⟨_, cs, hc⟩ := k2 db hx
        exact bk_ne HBK.out hc (by decide) rfl); have f4 := HDB.out.frozen 0; have d4 : w4.cell? ⟨db, 0, none⟩ = some (.slice A q.length c) := HDB.out.cell 0; clear ho hg hb hat)
    go_wp2
    go_ret
    obtain ⟨K, k1, k2⟩ := HK4.out
    have hsz : w4.heap.size ≤ (w4.setCell ⟨db, 0, none⟩ (.slice (some ⟨g4, 0, none⟩) (m + 1) c4)).heap.size := by simp [World.setCell]
    have hlen : (q ++ [(⟨s, id⟩ : Qn)]).length = m + 1 := by rw [List.length_append, HM.out]; rfl
    have hs : Sp u (w4.setCell ⟨db, 0, none⟩ (.slice (some ⟨g4, 0, none⟩) (m + 1) c4)) H (H ++ [g4]) := by
      refine ⟨(k1.more fun y hy => (k2 y hy).1).set (p := ⟨db, 0, none⟩) HZ.out.db _, fun y hy => ?_⟩
      rcases List.mem_append.1 hy with e | e
      · exact .inl e
      · rw [List.mem_singleton.1 e]
        rcases HG4.out.2 with e1 | e1
        · rw [← HM.out] at e1; exact .inl (HOG.out g4 e1)
        · right; rw [e1, World.size_alloc]; have := HB2.out.size; omega
    refine ⟨H ++ [g4], rfl, ⟨⟨some ⟨g4, 0, none⟩, c4, ?_, ?_, fun g hg => ?_⟩, List.mem_append_left _ HZ.out.db, HZ.out.l.trans (hs.k.below HZ.out.l.size HZ.out.lo), fun y hy => ?_, fun y hy => ?_⟩, hs⟩
    · rw [hlen]; exact HDB.out.set 0 _
    · refine Ow.apart HO4.out (p := ⟨db, 0, none⟩) (fun e => ?_) _
      obtain ⟨_, _, cs, hc⟩ := Ow.block HO4.out (m + 1) g4 rfl
      rw [e] at hc
      exact bk_ne HDB.out hc (by decide) rfl
    · simp [Value.ownBlock] at hg
      rw [← hg]; simp
    · rcases hs.g y hy with e | e
      · exact HZ.out.lo y e
      · exact Nat.le_trans HZ.out.l.size e
    · rcases List.mem_append.1 hy with e | e
      · exact Nat.lt_of_lt_of_le (HZ.out.hi y e) hs.k.size
      · rw [List.mem_singleton.1 e]
        exact Nat.lt_of_lt_of_le (Ow.block HO4.out (m + 1) g4 rfl).2.1 hsz
set_option maxRecDepth 100000 in
set_option maxHeartbeats 4000000 in
theorem d_drop (h : Dq W u H db q) (id : Int) (is : Bool) (q' : List Qn) (hE : drQ q id = (is, q')) (hq : q.length ≤ 64) :
    Calls Try.prog 16 #[.pointer (some ⟨db, 0, none⟩), .int .i64 id] u fun e u' => ∃ H', e = .returned (.bool is) ∧ Dq W u' H' db q' ∧ Sp u u' H H' := by
  obtain ⟨wn, hwn⟩ : ∃ wn, whN q id = wn := ⟨_, rfl⟩
  have hE1 : (whQ q id).isSome = is := congrArg Prod.fst hE
  have hE2 : outQ q id = q' := congrArg Prod.snd hE
  obtain ⟨m, hm⟩ : ∃ m, q.length = m := ⟨_, rfl⟩
  have HZ := Lib.hid h
  have HW := Lib.hid (d_where h id wn is ⟨hwn, hE1⟩ hq)
  have HM := Lib.hid hm
  have HE2 := Lib.hid hE2
  obtain ⟨A, c, h1, h2, h3⟩ := h.ex
  have HR := Lib.hid (Ow.rw_ (f := oqc) (k := 2) (fun _ => rfl) h2)
  have HBK := Lib.hid h1
  have HC := Lib.hid (fun w (hb : Below u.heap.size u w) => show w.cell? ⟨db, 0, none⟩ = some (.slice A q.length c) from (h1.below hb h1.lt).cell 0)
  simp only [hm] at HC
  rw [hm] at hq
  clear h h1 h2 h3 hm hE hE1 hE2 hwn
  go_enter Try.func16, Try.ntmps16
  go_upto_region 2 with (go_at_call 20; (with_reducible refine HW.out.mono ?_); rintro e ux ⟨rfl, hu⟩; rw [hu]; clear hu)
  go_wp2_with fail
  go_loopw [7, 8] (fun v7 v8 wr => ∃ (i k : Nat) (A2 : Option Addr) (c2 : Nat), i ≤ m ∧ k ≤ i ∧ v7 = .slice A2 k c2 ∧ v8 = .int .i64 (i : Int) ∧ Hid ((outQ (q.take i) id).length = k) ∧ Hid (Ow 58 2 oqc wr u.heap.size A2 c2 (outQ (q.take i) id)) ∧ Hid (Below u.heap.size u wr)) (fun v7 v8 _ => m - (intOf v8).toNat)
  case atStart => exact ⟨0, 0, none, 0, by omega, by omega, rfl, rfl, Lib.hid rfl, Lib.hid (Ow.nil _ _), Lib.hid (Below.refl _ _)⟩
  case round =>
    obtain ⟨i, k, A2, c2, hi, hk, rfl, rfl, HK, HO, HB⟩ := hrel
    have c1 := HC.out wr HB.out
    by_cases hi1 : i < m
    · have hi2 : (i : Int) < (m : Int) := by omega
      obtain ⟨b, o, x, rfl, hx, hc⟩ := row2 HR.out i (by rw [HM.out]; exact hi1)
      obtain ⟨x0, x1⟩ := hc wr HB.out
      have HT := Lib.hid (show outQ (q.take (i + 1)) id = outQ (q.take i) id ++ (if (x.id != id) = true then [x] else []) by
        unfold outQ
        rw [List.take_add_one, hx, show (some x).toList = [x] from rfl, List.filter_append, List.filter_cons, List.filter_nil])
      obtain ⟨xn, xi⟩ := x
      dsimp only at x0 x1 HT
      clear hx hc
      by_cases hxi : xi = id
      · have hb : (xi != id) = false := by simp [hxi]
        have HQ := Lib.hid (show outQ (q.take (i + 1)) id = outQ (q.take i) id by rw [HT.out, hb]; simp)
        clear hxi
        go_wp2_with fail
        go_roundw
        case rel => exact ⟨i + 1, k, A2, c2, by omega, by omega, rfl, by go_num, Lib.hid (by rw [HQ.out]; exact HK.out), Lib.hid (by rw [HQ.out]; exact HO.out), HB⟩
        case measure => simp [intOf]; omega
      · have hb : (xi != id) = true := by simp [hxi]
        have HQ := Lib.hid (show outQ (q.take (i + 1)) id = outQ (q.take i) id ++ [(⟨xn, xi⟩ : Qn)] by rw [HT.out, hb]; simp)
        have HOA := Lib.hid (HO.out.on ((Below.refl wr.heap.size wr).alloc (Nat.le_refl _) (.cells #[.string xn, .int .i64 xi] 58)))
        have HRX := Lib.hid (Rw.bk (f := oqc) (k := 2) (x := (⟨xn, xi⟩ : Qn)) (Bk.new wr 58 #[.string xn, .int .i64 xi]))
        have HBA := Lib.hid (HB.out.alloc HB.out.size (.cells #[.string xn, .int .i64 xi] 58))
        clear hxi
        go_wp2_with (at_builtin; refine wp_rows0 roO rfl (.tmp 34) (.tmp 42) rfl k rfl HK.out HOA.out [(⟨xn, xi⟩ : Qn)] (some ⟨wr.heap.size, 0, none⟩) 1 1 rfl rfl (fun h => by cases h) HRX.out (by omega) HBA.out.size (k + 1) rfl ?_; intro A9 c9 w9 ho9 hg9 hb9; have HO9 := Lib.hid ho9; have HB9 := Lib.hid (HBA.out.trans hb9); clear ho9 hg9 hb9)
        go_roundw
        case rel => exact ⟨i + 1, k + 1, A9, c9, by omega, by omega, by first | rfl | go_num, by go_num, Lib.hid (by rw [HQ.out, List.length_append, HK.out]; rfl), Lib.hid (by rw [HQ.out]; exact HO9.out), HB9⟩
        case measure => simp [intOf]; omega
    · have hi2 : ¬ (i : Int) < (m : Int) := by omega
      have HT := Lib.hid (show q.take i = q from List.take_of_length_le (by rw [HM.out]; omega))
      rw [HT.out, HE2.out] at HK HO
      have HD4 := Lib.hid (HBK.out.below HB.out HBK.out.lt)
      have f4 := HD4.out.frozen 0
      go_wp2_with fail
      go_ret
      have hs : Sp u (wr.setCell ⟨db, 0, none⟩ (.slice A2 k c2)) H (db :: ((Value.slice A2 k c2).ownBlock).toList) := by
        refine ⟨((Ke.of HB.out).nil).set (p := ⟨db, 0, none⟩) HZ.out.db _, fun y hy => ?_⟩
        rcases List.mem_cons.1 hy with e | e
        · rw [e]; exact .inl HZ.out.db
        · have hy2 : (Value.slice A2 k c2).ownBlock = some y := by simpa using e
          exact .inr (Ow.block HO.out k y hy2).1
      have hWs := HZ.out.l.size
      refine ⟨rfl, db :: ((Value.slice A2 k c2).ownBlock).toList, ⟨⟨A2, c2, ?_, ?_, fun g hg => ?_⟩, List.mem_cons_self .. , HZ.out.l.trans (hs.k.below HZ.out.l.size HZ.out.lo), fun y hy => ?_, fun y hy => ?_⟩, hs⟩
      · rw [HK.out]; exact HD4.out.set 0 _
      · have ho : Ow 58 2 oqc wr W.heap.size A2 c2 q' := ⟨HO.out.1, by
          rcases HO.out.2 with hn | ⟨g, cap, cur, hv, hg, r⟩
          · exact .inl hn
          · exact .inr ⟨g, cap, cur, hv, Nat.le_trans hWs hg, r⟩⟩
        refine ⟨ho.1, ?_⟩
        rcases ho.2 with hn | ⟨g, cap, cur, hv, hg, hh, r⟩
        · exact .inl hn
        · exact .inr ⟨g, cap, cur, hv, hg, (show Bk wr g _ _ from hh).far (fun e => bk_ne HD4.out (show Bk wr db _ _ by rw [← show g = db from e]; exact hh) (by decide) rfl) _, r⟩
      · rw [HK.out] at hg
        rw [hg]; simp
      · rcases hs.g y hy with e | e
        · exact HZ.out.lo y e
        · exact Nat.le_trans hWs e
      · have hsz : wr.heap.size ≤ (wr.setCell ⟨db, 0, none⟩ (.slice A2 k c2)).heap.size := by simp [World.setCell]
        rcases List.mem_cons.1 hy with e | e
        · rw [e]; exact Nat.lt_of_lt_of_le HD4.out.lt hsz
        · have hy2 : (Value.slice A2 k c2).ownBlock = some y := by simpa using e
          exact Nat.lt_of_lt_of_le (Ow.block HO.out k y hy2).2.1 hsz
set_option maxRecDepth 100000 in
set_option maxHeartbeats 4000000 in
theorem d_take (h : Dq W u H db q) (s : ByteArray) (x : Int) (is : Bool) (q' : List Qn) (hE : tkQ q s = (x, is, q')) (hq : q.length ≤ 64) :
    Calls Try.prog 14 #[.pointer (some ⟨db, 0, none⟩), .string s] u fun e u' => ∃ H', e = .returned (.tuple #[.int .i64 x, .bool is]) ∧ Dq W u' H' db q' ∧ Sp u u' H H' := by
  have HZ := Lib.hid h
  cases hl : liQ q s with
  | nil =>
    rw [tk_no hl] at hE
    injection hE with e1 e2
    injection e2 with e2 e3
    subst e1; subst e2; subst e3
    have HL := Lib.hid (d_list h s [] 0 ⟨hl, rfl⟩ hq)
    clear h hl
    go_enter Try.func14, Try.ntmps14
    go_wp2_with (go_at_call 24; (with_reducible refine HL.out.mono ?_); rintro e u2 ⟨A2, c2, rfl, h1, h2⟩; have HB2 := Lib.hid h2; clear h1 h2)
    go_ret2
    exact ⟨H, rfl, HZ.out.on HB2.out, (Ke.of HB2.out).sp⟩
  | cons a r =>
    rw [tk_first hl] at hE
    injection hE with e1 e2
    injection e2 with e2 e3
    subst e1; subst e2; subst e3
    obtain ⟨n, hn⟩ : ∃ n, (a :: r).length = n := ⟨_, rfl⟩
    have hn0 : 0 < n := by rw [← hn]; exact Nat.zero_lt_succ _
    have hn64 : n ≤ 64 := by rw [← hn, ← hl]; exact Nat.le_trans (li_le q s) hq
    have HL := Lib.hid (d_list h s (a :: r) n ⟨hl, hn⟩ hq)
    obtain ⟨is, his⟩ : ∃ is, (whQ q a).isSome = is := ⟨_, rfl⟩
    have HDR := Lib.hid (fun w (hb : Below u.heap.size u w) => d_drop (h.on hb) a is (outQ q a) (by unfold drQ; rw [his]) hq)
    have hne : ((n : Int) == 0) = false := by rw [beq_eq_false_iff_ne]; omega
    have hn1 : (0 : Int) < (n : Int) := by omega
    have HN := Lib.hid hn
    clear h hl hn his
    go_enter Try.func14, Try.ntmps14
    go_upto_region 2 with (go_at_call 24; (with_reducible refine HL.out.mono ?_); rintro e u2 ⟨A2, c2, rfl, h1, h2⟩; have HR2 := Lib.hid (h1.ri (K := H) HZ.out.hi); have HB2 := Lib.hid h2; clear h1 h2)
    obtain ⟨b, o, y, rfl, hy, hyl⟩ := HR2.out.at_ (i := 0) (by rw [HN.out]; exact hn0)
    have hya : y = a := by simp at hyl; exact hyl.symm
    subst hya
    rw [Nat.add_zero] at hy
    clear hyl
    go_upto_region 5 with (go_at_call 16; (with_reducible refine (HDR.out _ HB2.out).mono ?_); rintro e u3 ⟨H3, rfl, h1, h2⟩; have HZ3 := Lib.hid h1; have HR3 := Lib.hid (HR2.out.step h2); have HS3 := Lib.hid ((Ke.of HB2.out).sp.trans h2); clear h1 h2)
    obtain ⟨b3, o3, y3, he3, hy3, hyl3⟩ := HR3.out.at_ (i := 0) (by rw [HN.out]; exact hn0)
    injection he3 with he3
    injection he3 with g1 g2 g3
    subst g1; subst g2
    have hya : y3 = y := by simp at hyl3; exact hyl3.symm
    subst hya
    rw [Nat.add_zero] at hy3
    clear hyl3 g3
    go_wp2_with fail
    go_ret2
    exact ⟨H3, rfl, HZ3.out, HS3.out⟩
end
end Go.Proofs.Ytikkiifcnjiegaa

/- Both queues side by side: the program's and the document's own. -/
namespace Go.Proofs.Ytikkiifcnjiegaa
set_option linter.unusedVariables false
set_option maxRecDepth 100000
set_option linter.unusedSimpArgs false
open Go.RowKit

structure WD (W u : World) (G : List Nat) (qb : Nat) (q : List Qn) (H : List Nat) (db : Nat) (r : List Qn) : Prop where
  l : Wq W u G qb q
  r : Dq W u H db r
  ne : ∀ y ∈ G, y ∉ H
section
variable {W u u' : World} {G G' H H' : List Nat} {qb db : Nat} {q r q' r' : List Qn}
theorem WD.left (h : WD W u G qb q H db r) (s : Sp u u' G G') (k : Wq W u' G' qb q') : WD W u' G' qb q' H db r :=
  ⟨k, h.r.ke s.k (fun y hy hG => h.ne y hG hy) k.l, fun y hy hH => by
    rcases s.g y hy with e | e
    · exact h.ne y e hH
    · have := h.r.hi y hH; omega⟩
theorem WD.right (h : WD W u G qb q H db r) (s : Sp u u' H H') (k : Dq W u' H' db r') : WD W u' G qb q H' db r' :=
  ⟨h.l.ke s.k (fun y hy hH => h.ne y hy hH) k.l, k, fun y hy hH => by
    rcases s.g y hH with e | e
    · exact h.ne y hy e
    · have := h.l.hi y hy; omega⟩
theorem WD.on (h : WD W u G qb q H db r) (hb : Below u.heap.size u u') : WD W u' G qb q H db r := ⟨h.l.on hb, h.r.on hb, h.ne⟩
theorem WD.hi (h : WD W u G qb q H db r) : ∀ y ∈ G ++ H, y < u.heap.size := fun y hy => by
  rcases List.mem_append.1 hy with e | e
  · exact h.l.hi y e
  · exact h.r.hi y e
end
theorem gen_qu {Q : Exit → Act → World → Prop} {e : Exit} {a : Act} {w : World} (S : World → Prop) (hS : S w) (h : ∀ u, S u → Q e a u) : Q e a w := h w hS
end Go.Proofs.Ytikkiifcnjiegaa
