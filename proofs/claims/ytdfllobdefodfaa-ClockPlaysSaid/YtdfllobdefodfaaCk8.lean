/- Drop and Set. -/
import Derived.Test.YtdfllobdefodfaaCk7
import Derived.Deep.QuietTactic
namespace Go.Proofs.Ytdfllobdefodfaa
set_option linter.unusedVariables false
set_option linter.unusedSimpArgs false
open Go.RowKit

variable {u : World} {F : List Nat} {c : Nat} {now : Int} {mb : Nat} {A : Option Addr} {cap : Nat} {l : List Al} {G : List Nat} {S : List Ky}

theorem ks_cons (x : Al) (l : List Al) : ks (x :: l) = x.ky :: ks l := rfl
theorem ks_perm {l m : List Al} (h : l.Perm m) : (ks l).Perm (ks m) := h.map _
theorem out_perm {A B : List Ky} (h : A.Perm B) (k : Int) : (outM k A).Perm (outM k B) := h.filter _
theorem out_ks {l l' : List Al} {x : Al} {S : List Ky} (hp : (ks l).Perm S) (hs : Srt S) (h : l.Perm (x :: l')) : (ks l').Perm (outM x.id S) := by
  have h1 : (ks l).Perm (x.ky :: ks l') := ks_perm h
  exact (out_of_perm h1 (ids_perm hp.symm hs.ids)).trans (out_perm hp _)
theorem erase_perm {l : List Al} {i : Nat} (hi : i < l.length) : l.Perm (nth l i :: l.eraseIdx i) := by
  have := ChangeMaps.set_perm l i hi l[i]
  rw [List.set_getElem_self, nth_getElem hi] at this
  exact this
theorem set_ks {l : List Al} {S : List Ky} (hp : (ks l).Perm S) (hs : Srt S) {i : Nat} (hi : i < l.length) (t : Int) : (ks (l.set i ⟨(nth l i).b, (nth l i).id, t⟩)).Perm (setM (nth l i).id t S) := by
  have h1 := ks_perm (ChangeMaps.set_perm l i hi ⟨(nth l i).b, (nth l i).id, t⟩)
  have h2 := out_ks hp hs (erase_perm hi)
  exact (h1.trans (h2.cons _)).trans (insM_perm _ _).symm
theorem out_miss {l : List Al} {S : List Ky} (hp : (ks l).Perm S) {k : Int} (hn : ∀ x ∈ l, x.id ≠ k) : outM k S = S :=
  out_none (fun y hy => by
    obtain ⟨x, hx, rfl⟩ := List.mem_map.1 (hp.mem_iff.2 hy)
    exact hn x hx)
theorem out_length_le (k : Int) (S : List Ky) : (outM k S).length ≤ S.length := List.length_filter_le _ _

/-- What take leaves of a clock. -/
theorem take_ck {u' : World} {x : Al} {m : Nat} {e : Ending} (h : TakePost u F c now mb A cap l x m e u') (hF : mb ∉ F) (hp : (ks l).Perm S) (hs : Srt S) (t0 : 0 ≤ now) (t1 : now ≤ 1099511627776) (few : S.length ≤ 1024) (low : ∀ y ∈ G, y < u.heap.size) (hG : mb ∈ G) (hFG : ∀ y ∈ F, y ∈ G) :
    Ck u' G c now (outM x.id S) ∧ Ke G u u' := by
  obtain ⟨l', h1, h2, h3, h4, h5, h6⟩ := h.ex
  have hk : Ke G u u' := h6.more (fun y hy => by
    rcases List.mem_cons.1 hy with rfl | hy
    · exact hG
    · exact hFG y hy)
  exact ⟨⟨⟨mb, F, A, cap, l', h1, h2, hF, h5 ▸ h4, out_ks hp hs h3, hG, hFG⟩, hs.out _, t0, t1, Nat.le_trans (out_length_le _ _) few, fun y hy => Nat.lt_of_lt_of_le (low y hy) hk.size⟩, hk⟩

set_option maxRecDepth 100000 in
set_option maxHeartbeats 8000000 in
theorem drop_ok (u : World) (h : Ck u G c now S) (k : Int) (hk : Wf k) :
    Calls Try.prog 12 #[.pointer (some ⟨c, 0, none⟩), .int .i64 k] u fun e u' => e = .returned (.bool (atM k S).isSome) ∧ Ck u' G c now (outM k S) ∧ Ke G u u' := by
  obtain ⟨⟨mb, F, A, cap, l, h1, h2, h3, h4, h5, h6, h7⟩, h8, h9, h10, h11, h12⟩ := h
  obtain ⟨_, c1, _⟩ := h1.ck.cells3
  rcases id_or l k with ⟨i, hi, rfl⟩ | hno
  · rw [at_of h5 h8 (nth_mem hi)]
    have hr := h2.hit (nth_mem hi)
    obtain ⟨x0, x1, x2⟩ := (h1.als i hi).cells3
    have HT := Lib.hid (take_ok u h1 h2 h3 i (l.length - 1) (by omega) (by omega) (by rw [show l.length - 1 + 1 = l.length by omega]; exact h4))
    have HC := Lib.hid (fun e u' (h : TakePost u F c now mb A cap l (nth l i) (l.length - 1) e u') => take_ck h h3 h5 h8 h9 h10 h11 h12 h6 h7)
    simp only [Option.isSome_some]
    generalize l.length - 1 = m at *
    generalize nth l i = x at *
    clear h1 h2 h3 h4 h5 h6 h7 h8 h9 h10 h11 h12 hi hk
    go_enter Try.func12, Try.ntmps12
    go_wp2_with (go_at_call 24; refine HT.out.mono ?_; intro e u' hpost; have HP := Lib.hid (HC.out _ _ hpost); obtain ⟨rfl, _⟩ := hpost)
    go_ret
    exact ⟨rfl, HP.out⟩
  · rw [at_none h5 hno]
    have hr := h2.miss hk hno
    simp only [Option.isSome_none]
    rw [out_miss h5 hno]
    have H := Lib.hid (show Ck u G c now S from ⟨⟨mb, F, A, cap, l, h1, h2, h3, h4, h5, h6, h7⟩, h8, h9, h10, h11, h12⟩)
    clear h1 h2 h3 h4 h5 h6 h7 h8 h9 h10 h11 h12 hno hk
    go_enter Try.func12, Try.ntmps12
    go_wp2_with fail
    go_ret
    exact ⟨rfl, H.out, Ke.refl _ _⟩

/-- What Set answers. -/
def setE (now : Int) (S : List Ky) (k t : Int) : Int := if t ≤ now ∨ 2199023255552 < t then 1 else if atM k S = none ∧ 1024 ≤ S.length then 2 else 0
/-- What Set leaves. -/
def setS (now : Int) (S : List Ky) (k t : Int) : List Ky := if setE now S k t = 0 then setM k t S else S
structure SetPost (u : World) (G : List Nat) (c : Nat) (now : Int) (S : List Ky) (k t : Int) (e : Ending) (u' : World) : Prop where
  e : e = .returned (.int .i64 (setE now S k t))
  ex : ∃ G', Ck u' G' c now (setS now S k t) ∧ Ke G u u' ∧ (∀ y ∈ G', y ∈ G ∨ u.heap.size ≤ y)

theorem setE_arg {now : Int} {S : List Ky} {k t : Int} (h : t ≤ now ∨ 2199023255552 < t) : setE now S k t = 1 ∧ setS now S k t = S := by
  have : setE now S k t = 1 := if_pos h
  exact ⟨this, by unfold setS; rw [this]; rfl⟩
theorem setE_many {now : Int} {S : List Ky} {k t : Int} (h : ¬ (t ≤ now ∨ 2199023255552 < t)) (h2 : atM k S = none ∧ 1024 ≤ S.length) : setE now S k t = 2 ∧ setS now S k t = S := by
  have : setE now S k t = 2 := by unfold setE; rw [if_neg h, if_pos h2]
  exact ⟨this, by unfold setS; rw [this]; rfl⟩
theorem setE_ok {now : Int} {S : List Ky} {k t : Int} (h : ¬ (t ≤ now ∨ 2199023255552 < t)) (h2 : ¬ (atM k S = none ∧ 1024 ≤ S.length)) : setE now S k t = 0 ∧ setS now S k t = setM k t S := by
  have : setE now S k t = 0 := by unfold setE; rw [if_neg h, if_neg h2]
  exact ⟨this, by unfold setS; rw [this]; rfl⟩

/-- An alarm's time turned. -/
theorem hp_time (h : Hp u F c now mb A cap l) {i : Nat} (hi : i < l.length) (t : Int) : Hp (u.setCell ⟨(nth l i).b, 1, none⟩ (.int .i64 t)) F c now mb A cap (l.set i ⟨(nth l i).b, (nth l i).id, t⟩) ∧ Ke F u (u.setCell ⟨(nth l i).b, 1, none⟩ (.int .i64 t)) := by
  have hn : ∀ k, nth (l.set i ⟨(nth l i).b, (nth l i).id, t⟩) k = if k = i then ⟨(nth l i).b, (nth l i).id, t⟩ else nth l k := fun k => nth_set _ hi
  have hnb : ∀ k, (nth (l.set i ⟨(nth l i).b, (nth l i).id, t⟩) k).b = (nth l k).b := fun k => by
    rw [hn]; split
    · rename_i e; rw [e]
    · rfl
  refine ⟨⟨?_, ?_, fun k hk => ?_, by simpa using h.few, h.fc, fun k hk => ?_⟩, (Ke.refl F u).set (p := ⟨(nth l i).b, 1, none⟩) (h.fl i hi) _⟩
  · rw [List.length_set]
    exact h.ck.far ((h.als i hi).ne h.ck (by decide)).symm _
  · rcases h.row with ⟨e1, e2, e3⟩ | ⟨g, cur, e1, e2, e3, e4, e5, e6, e7⟩
    · subst e2; simp at hi
    · exact .inr ⟨g, cur, e1, e2, e3.far ((h.als i hi).ne e3 (by decide)).symm _, by rw [List.length_set]; exact e4, e5, e6, fun k hk => by rw [hnb]; exact e7 k (by simpa using hk)⟩
  · rw [List.length_set] at hk
    rw [hn]
    by_cases hki : k = i
    · subst hki
      rw [if_pos rfl]
      exact (h.als k hk).set 1 _
    · rw [if_neg hki]
      exact (h.als k hk).far (h.two hk hi hki) _
  · rw [List.length_set] at hk
    rw [hnb]
    exact h.fl k hk

set_option maxRecDepth 100000 in
set_option maxHeartbeats 8000000 in
theorem set_ok (u : World) (h : Ck u G c now S) (k : Int) (hk : Wf k) (t : Int) :
    Calls Try.prog 17 #[.pointer (some ⟨c, 0, none⟩), .int .i64 k, .int .i64 t] u (SetPost u G c now S k t) := by
  have H := Lib.hid h
  obtain ⟨⟨mb, F, A, cap, l, h1, h2, h3, h4, h5, h6, h7⟩, h8, h9, h10, h11, h12⟩ := h
  obtain ⟨c0, c1, c2⟩ := h1.ck.cells3
  by_cases ht : t ≤ now
  · obtain ⟨e1, e2⟩ := setE_arg (S := S) (k := k) (.inl ht)
    have HE := Lib.hid (And.intro e1 e2)
    clear h1 h2 h3 h4 h5 h6 h7 h8 h9 h10 h11 h12 hk e1 e2
    go_enter Try.func17, Try.ntmps17
    go_wp2_with fail
    go_ret
    exact ⟨by rw [HE.out.1]; rfl, G, by rw [HE.out.2]; exact H.out, Ke.refl _ _, fun y hy => .inl hy⟩
  · by_cases ht2 : 2199023255552 < t
    · obtain ⟨e1, e2⟩ := setE_arg (now := now) (S := S) (k := k) (.inr ht2)
      have HE := Lib.hid (And.intro e1 e2)
      have hd : decide (t ≤ now) = false := by simp; omega
      clear h1 h2 h3 h4 h5 h6 h7 h8 h9 h10 h11 h12 hk e1 e2
      go_enter Try.func17, Try.ntmps17
      go_wp2_with fail
      go_ret
      exact ⟨by rw [HE.out.1]; rfl, G, by rw [HE.out.2]; exact H.out, Ke.refl _ _, fun y hy => .inl hy⟩
    · have hd : decide (t ≤ now) = false := by simp; omega
      have hd2 : decide (2199023255552 < t) = false := by simp; omega
      have hlen : l.length = S.length := by rw [← ks_length, h5.length_eq]
      rcases id_or l k with ⟨i, hi, rfl⟩ | hno
      · obtain ⟨e1, e2⟩ := setE_ok (now := now) (S := S) (k := (nth l i).id) (t := t) (by omega) (by rw [at_of h5 h8 (nth_mem hi)]; simp)
        have hr := h2.hit (nth_mem hi)
        obtain ⟨x0, x1, x2⟩ := (h1.als i hi).cells3
        have fx := (h1.als i hi).frozen 1
        obtain ⟨q1, q2⟩ := hp_time h1 hi t
        obtain ⟨y0, y1, y2⟩ := (q1.als i (by simpa using hi)).cells3
        have hnb : (nth (l.set i ⟨(nth l i).b, (nth l i).id, t⟩) i) = ⟨(nth l i).b, (nth l i).id, t⟩ := by rw [nth_set _ hi, if_pos rfl]
        rw [hnb] at y0 y1 y2
        dsimp only at y0 y1 y2
        have HFX := Lib.hid (hfix_ok _ q1.drew i l.length (by simp) hi (h4.dn (Nat.le_refl _) hi _))
        have HQ := Lib.hid (And.intro q1.drew q2.drew)
        have HEND := Lib.hid (show ∀ w l', Kp (u.setCell ⟨(nth l i).b, 1, none⟩ (.int .i64 t)).drew w F c now mb A cap (l.set i ⟨(nth l i).b, (nth l i).id, t⟩) l' → HeapN l' l.length → Ck w G c now (setM (nth l i).id t S) ∧ Ke G u w from
          fun w l' hkp hh => by
            have hkw : Ke F u w := q2.drew.trans hkp.k
            have hm1 : Mp w mb (l.set i ⟨(nth l i).b, (nth l i).id, t⟩) := (h2.ke hkw h3).same (by simp) (fun j hj => by
              rw [nth_set _ hi]
              split
              · rename_i e; subst e; exact ⟨rfl, rfl⟩
              · exact ⟨rfl, rfl⟩)
            have hl' : l'.length = l.length := by rw [hkp.p.length_eq, List.length_set]
            have hpp := (ks_perm hkp.p).trans (set_ks h5 h8 hi t)
            have hG := hkw.more h7
            refine ⟨⟨⟨mb, F, A, cap, l', hkp.h, hm1.perm hkp.p.symm, h3, hl'.symm ▸ hh, hpp, h6, h7⟩, h8.set _ _, h9, h10, ?_, fun y hy => Nat.lt_of_lt_of_le (h12 y hy) hG.size⟩, hG⟩
            rw [← hpp.length_eq, ks_length, hl']
            omega)
        have HE := Lib.hid (And.intro e1 e2)
        generalize (l.set i ⟨(nth l i).b, (nth l i).id, t⟩) = l1 at *
        generalize nth l i = x at *
        generalize l.length = n at *
        clear q1 q2 hnb h1 h2 h3 h4 h5 h6 h7 h8 h9 h10 h11 h12 hi hk e1 e2 hlen H
        go_enter Try.func17, Try.ntmps17
        go_upto_region 6 with fail
        go_region_with (go_at_call 26; refine HFX.out.mono ?_; rintro e w2 ⟨rfl, l2, k1, k2⟩; have H2 := Lib.hid (HEND.out w2 l2 k1 k2); clear k1 k2)
        go_wp2_with fail
        go_ret
        exact ⟨by rw [HE.out.1]; rfl, G, by rw [HE.out.2]; exact H2.out.1, H2.out.2, fun y hy => .inl hy⟩
      · by_cases hfull : 1024 ≤ S.length
        · obtain ⟨e1, e2⟩ := setE_many (now := now) (S := S) (k := k) (t := t) (by omega) ⟨at_none h5 hno, hfull⟩
          have hr := h2.miss hk hno
          have hl := h2.len 3
          rw [hlen] at hl
          have HE := Lib.hid (And.intro e1 e2)
          have hf2 : (1024 : Int) ≤ (S.length : Int) := by omega
          generalize S.length = n at *
          clear h1 h2 h3 h4 h5 h6 h7 h8 h9 h10 h11 h12 hk e1 e2 hno hlen
          go_enter Try.func17, Try.ntmps17
          go_wp2_with fail
          go_ret
          exact ⟨by rw [HE.out.1]; rfl, G, by rw [HE.out.2]; exact H.out, Ke.refl _ _, fun y hy => .inl hy⟩
        · obtain ⟨e1, e2⟩ := setE_ok (now := now) (S := S) (k := k) (t := t) (by omega) (by omega)
          have hr := h2.miss hk hno
          have hl := h2.len 3
          rw [hlen] at hl
          obtain ⟨x, hx⟩ : ∃ x : Al, x = ⟨u.heap.size, k, t⟩ := ⟨_, rfl⟩
          have ka : Ke [] u (u.alloc (.cells (acells x 0) 65)) := (Ke.refl _ _).alloc _
          obtain ⟨w2, hs, hm2, hk2⟩ := (h2.ke ka (by simp)).store (by omega) x (by rw [hx]; exact hk) (by rw [hx]; exact hno)
          have hxb : x.b = u.heap.size := by rw [hx]
          have hxm : x.b ≠ mb := by have := h2.lt; omega
          have hmF : ∀ y ∈ [mb], y ∉ F := by simpa using h3
          have q1 : Hp w2 F c now mb A cap l := (h1.ke ka (by simp)).ke hk2 hmF
          have q2 : Bk w2 x.b 65 (acells x 0) := (Bk.here (n := x.b) (by rw [hxb])).ke hk2 (by simpa using hxm)
          have hfr : ∀ i, i < l.length → (nth l i).b ≠ x.b := fun i hi => by have := (h1.als i hi).lt; omega
          have HPU := Lib.hid (hpush_ok w2 q1 (by omega) h4 x 0 q2 hfr)
          have HEND := Lib.hid (show ∀ e w, HpushPost w2 F c now mb l x e w → ∃ G', Ck w G' c now (setM k t S) ∧ Ke G u w ∧ (∀ y ∈ G', y ∈ G ∨ u.heap.size ≤ y) from
            fun e w hpost => by
              obtain ⟨F', A', cap', l', r1, r2, r3, r4, r5, r6⟩ := hpost.ex
              have hmb : mb ∉ x.b :: F := by
                simp only [List.mem_cons, not_or]
                exact ⟨fun e => hxm e.symm, h3⟩
              have hmb' : mb ∉ F' := fun hy => by
                rcases r5 mb hy with h | h
                · exact hmb h
                · have := hm2.lt
                  omega
              have hmw := (hm2.ke r4 hmb).perm (m := l') ((List.perm_append_singleton x l).symm.trans r2.symm)
              have hpp : (ks l').Perm (setM k t S) := by
                have p1 := (ks_perm r2).trans (ks_perm (List.perm_append_singleton x l))
                have p2 : (ks (x :: l)).Perm ((k, t) :: S) := by
                  rw [ks_cons, hx]
                  exact h5.cons _
                have p3 := (insM_perm (k, t) (outM k S)).symm
                rw [out_miss h5 hno] at p3
                have e : setM k t S = insM (k, t) S := by unfold setM; rw [out_miss h5 hno]
                rw [e]
                exact (p1.trans p2).trans p3
              have hkk : Ke (x.b :: G) u w := ((ka.trans (Ke.nil (Ke.refl _ _))).nil.trans (hk2.more (by simp [h6]))).trans (r4.more (fun y hy => by
                rcases List.mem_cons.1 hy with rfl | hy
                · exact List.mem_cons_self ..
                · exact List.mem_cons_of_mem _ (h7 y hy)))
              have hkG : Ke G u w := hkk.new (by rw [hxb]; exact Nat.le_refl _)
              have hsz2 : u.heap.size ≤ w2.heap.size := Nat.le_trans ka.size hk2.size
              refine ⟨F' ++ G, ⟨⟨mb, F', A', cap', l', r1, hmw, hmb', r3, hpp, by simp [h6], fun y hy => List.mem_append_left _ hy⟩, h8.set _ _, h9, h10, ?_, fun y hy => ?_⟩, hkG, fun y hy => ?_⟩
              · rw [← hpp.length_eq, ks_length, r2.length_eq, List.length_append]
                simp
                omega
              · rcases List.mem_append.1 hy with hy | hy
                · rcases r5 y hy with h | h
                  · rcases List.mem_cons.1 h with rfl | h
                    · exact Nat.lt_of_lt_of_le q2.lt r4.size
                    · exact Nat.lt_of_lt_of_le (h12 y (h7 y h)) hkG.size
                  · exact h.2
                · exact Nat.lt_of_lt_of_le (h12 y hy) hkG.size
              · rcases List.mem_append.1 hy with hy | hy
                · rcases r5 y hy with h | h
                  · rcases List.mem_cons.1 h with rfl | h
                    · right; rw [hxb]; exact Nat.le_refl _
                    · exact .inl (h7 y h)
                  · right; omega
                · exact .inl hy)
          have HE := Lib.hid (And.intro e1 e2)
          have hf2 : ¬ (1024 : Int) ≤ (S.length : Int) := by omega
          have hf3 : decide ((1024 : Int) ≤ (S.length : Int)) = false := by simp; omega
          have c0' : (u.alloc (.cells (acells x 0) 65)).cell? ⟨c, 1, none⟩ = some (.map (some mb)) := ((h1.ck.alloc _).cells3).2.1
          obtain ⟨d0, d1, d2⟩ := q1.ck.cells3
          subst hx
          dsimp only at hs HPU c0'
          have hs' : (Instr.mapUpdate 56 (.map (some mb)) (.int .i64 k) (ptr u.heap.size)).run Try.prog (u.alloc (.cells #[.int .i64 k, .int .i64 t, .int .i64 0] 65)) = .ok () w2 := hs
          have c0'' : (u.alloc (.cells #[.int .i64 k, .int .i64 t, .int .i64 0] 65)).cell? ⟨c, 1, none⟩ = some (.map (some mb)) := c0'
          clear hs c0'
          generalize S.length = n at *
          clear h1 h2 h3 h4 h5 h6 h7 h8 h9 h10 h11 h12 hk e1 e2 hno hlen ka hm2 hk2 hxb hxm hmF q1 q2 hfr H
          go_enter Try.func17, Try.ntmps17
          go_wp2_with (go_at_call 27; refine HPU.out.mono ?_; intro e u' hpost; have HP := Lib.hid (HEND.out _ _ hpost); obtain ⟨rfl, _⟩ := hpost)
          go_ret
          obtain ⟨G', k1, k2, k3⟩ := HP.out
          exact ⟨by rw [HE.out.1]; rfl, G', by rw [HE.out.2]; exact k1, k2, k3⟩
end Go.Proofs.Ytdfllobdefodfaa
