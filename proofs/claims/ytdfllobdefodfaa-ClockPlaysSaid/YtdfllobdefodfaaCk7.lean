/- The clock's own methods: take, Now, Many, At, New. -/
import Derived.Test.YtdfllobdefodfaaCk6
namespace Go.Proofs.Ytdfllobdefodfaa
set_option linter.unusedVariables false
set_option linter.unusedSimpArgs false
open Go.RowKit

variable {u : World} {F : List Nat} {c : Nat} {now : Int} {mb : Nat} {A : Option Addr} {cap : Nat} {l : List Al}

theorem Mp.ne {u : World} {mb b : Nat} {l : List Al} {t : TypeId} {cs : Array Value} (h : Mp u mb l) (hb : Bk u b t cs) : b ≠ mb := by
  intro e
  subst e
  obtain ⟨_, _, _, D, ⟨es, clock, hb', _⟩, _⟩ := h
  have := hb'.symm.trans hb
  cases this

/-- What take leaves. -/
structure TakePost (u : World) (F : List Nat) (c : Nat) (now : Int) (mb : Nat) (A : Option Addr) (cap : Nat) (l : List Al) (x : Al) (m : Nat) (e : Ending) (u' : World) : Prop where
  e : e = .returned (.int .i64 x.id)
  ex : ∃ l', Hp u' F c now mb A cap l' ∧ Mp u' mb l' ∧ l.Perm (x :: l') ∧ HeapN l' m ∧ l'.length = m ∧ Ke (mb :: F) u u'

set_option maxRecDepth 100000 in
set_option maxHeartbeats 8000000 in
theorem take_ok (u : World) (h : Hp u F c now mb A cap l) (hp : Mp u mb l) (hF : mb ∉ F) (i m : Nat) (hm : l.length = m + 1) (hi : i ≤ m) (hh : HeapN l (m + 1)) :
    Calls Try.prog 24 #[.pointer (some ⟨c, 0, none⟩), .int .i64 (i : Int)] u (TakePost u F c now mb A cap l (nth l i) m) := by
  have H := Lib.hid (hrem_ok u h i m hm hi hh)
  have HP := Lib.hid (And.intro hp hF)
  have hta := assert_al (nth l i).b
  obtain ⟨x, hx⟩ : ∃ x, x = nth l i := ⟨_, rfl⟩
  rw [← hx] at H hta ⊢
  clear h hp hF hm hi hh hx
  go_enter Try.func24, Try.ntmps24
  go_upto_region 2 with (first
    | (go_at_call 28; refine H.out.mono ?_; rintro e w1 ⟨rfl, l', k, h1, h2, h3, h4, h5, h6⟩; have H1 := Lib.hid (And.intro h1 (And.intro h2 (And.intro h3 (And.intro h4 (And.intro h5 h6))))); clear h1 h2 h3 h4 h5 h6))
  have HM1 : Mp w1.drew mb (x :: l') := (HP.out.1.ke H1.out.2.2.2.2.1 HP.out.2).perm H1.out.2.1 |>.ke (L := []) (Ke.refl _ _).drew (by simp)
  obtain ⟨w2, hr, hm2, hk2⟩ := HM1.drop 0
  obtain ⟨c0, c1, c2⟩ := H1.out.1.ck.cells3
  obtain ⟨x0, x1, x2⟩ := H1.out.2.2.2.2.2.cells3
  have HXB := Lib.hid H1.out.2.2.2.2.2
  have H2 := Lib.hid (And.intro hm2 hk2)
  have hxm : x.b ≠ mb := HM1.ne (H1.out.2.2.2.2.2.drew)
  clear HM1 hm2 hk2
  go_region
  have HX2 := HXB.out.drew.ke H2.out.2 (by simpa using hxm)
  obtain ⟨y0, y1, y2⟩ := HX2.cells3
  clear hr c0 c1 c2 x0 x1 x2 HX2
  go_wp2_with fail
  go_ret
  have hmF : ∀ y ∈ [mb], y ∉ F := by simpa using HP.out.2
  exact ⟨rfl, l', (H1.out.1.drew.ke H2.out.2 hmF), H2.out.1, H1.out.2.1, H1.out.2.2.1, H1.out.2.2.2.1, ((H1.out.2.2.2.2.1.drew.more (fun y hy => List.mem_cons_of_mem _ hy)).trans (H2.out.2.more (by simp)))⟩

/-- At c lies a clock: its time, and its alarms in order; it lies in the blocks G. -/
structure Ck (u : World) (G : List Nat) (c : Nat) (now : Int) (S : List Ky) : Prop where
  ex : ∃ mb F A cap l, Hp u F c now mb A cap l ∧ Mp u mb l ∧ mb ∉ F ∧ HeapN l l.length ∧ (ks l).Perm S ∧ mb ∈ G ∧ ∀ y ∈ F, y ∈ G
  srt : Srt S
  t0 : 0 ≤ now
  t1 : now ≤ 1099511627776
  few : S.length ≤ 1024
  low : ∀ y ∈ G, y < u.heap.size

theorem Ck.ke {u u' : World} {G L : List Nat} {S : List Ky} (h : Ck u G c now S) (k : Ke L u u') (hL : ∀ x ∈ L, x ∉ G) : Ck u' G c now S := by
  obtain ⟨⟨mb, F, A, cap, l, h1, h2, h3, h4, h5, h6, h7⟩, h8, h9, h10, h11, h12⟩ := h
  exact ⟨⟨mb, F, A, cap, l, h1.ke k (fun x hx hf => hL x hx (h7 x hf)), h2.ke k (fun hx => hL mb hx h6), h3, h4, h5, h6, h7⟩, h8, h9, h10, h11, fun y hy => Nat.lt_of_lt_of_le (h12 y hy) k.size⟩

theorem ks_length (l : List Al) : (ks l).length = l.length := by simp [ks]
theorem at_of {l : List Al} {S : List Ky} (hp : (ks l).Perm S) (hs : Srt S) {x : Al} (hx : x ∈ l) : atM x.id S = some x.t := by
  have hm : x.ky ∈ S := hp.mem_iff.1 (List.mem_map_of_mem hx)
  have : ∀ T : List Ky, x.ky ∈ T → T.Pairwise (fun x y => x.1 ≠ y.1) → T.find? (fun y => y.1 == x.id) = some x.ky := by
    intro T
    induction T with
    | nil => intro h; cases h
    | cons y T ih =>
      intro h hd
      obtain ⟨h1, h2⟩ := List.pairwise_cons.1 hd
      rcases List.mem_cons.1 h with e | e
      · subst e; simp [Al.ky]
      · have := h1 _ e
        have hne : (y.1 == x.id) = false := by simpa [Al.ky] using this
        rw [List.find?_cons, hne]
        exact ih e h2
  unfold atM
  rw [this S hm hs.ids]
  rfl
theorem at_none {l : List Al} {S : List Ky} (hp : (ks l).Perm S) {k : Int} (hn : ∀ x ∈ l, x.id ≠ k) : atM k S = none := by
  unfold atM
  rw [List.find?_eq_none.2 (fun y hy => ?_)]
  · rfl
  · obtain ⟨x, hx, rfl⟩ := List.mem_map.1 (hp.mem_iff.2 hy)
    simpa [Al.ky] using hn x hx
theorem id_or (l : List Al) (k : Int) : (∃ i, i < l.length ∧ (nth l i).id = k) ∨ ∀ x ∈ l, x.id ≠ k := by
  by_cases h : ∃ x ∈ l, x.id = k
  · obtain ⟨x, hx, e⟩ := h
    obtain ⟨i, hi, rfl⟩ := List.mem_iff_getElem.1 hx
    rw [nth_getElem hi] at e
    exact .inl ⟨i, hi, e⟩
  · exact .inr (fun x hx e => h ⟨x, hx, e⟩)

variable {G : List Nat} {S : List Ky}

theorem now_ok (u : World) (h : Ck u G c now S) : Calls Try.prog 21 #[.pointer (some ⟨c, 0, none⟩)] u fun e u' => e = .returned (.int .i64 now) ∧ u' = u := by
  obtain ⟨mb, F, A, cap, l, h1, _⟩ := h.ex
  obtain ⟨c0, _, _⟩ := h1.ck.cells3
  clear h h1
  go_enter Try.func21, Try.ntmps21
  go_wp2_with fail
  go_ret
  exact ⟨rfl, rfl⟩
theorem cmany_ok (u : World) (h : Ck u G c now S) (n : Nat) (hn : S.length = n) : Calls Try.prog 22 #[.pointer (some ⟨c, 0, none⟩)] u fun e u' => e = .returned (.int .i64 (n : Int)) ∧ u' = u := by
  obtain ⟨mb, F, A, cap, l, h1, h2, _, _, h5, _⟩ := h.ex
  obtain ⟨_, c1, _⟩ := h1.ck.cells3
  have hlen : l.length = n := by rw [← ks_length, h5.length_eq, hn]
  have hr := h2.len 3
  rw [hlen] at hr
  clear h h1 h2 h5 hlen hn
  go_enter Try.func22, Try.ntmps22
  go_wp2_with fail
  go_ret
  exact ⟨rfl, rfl⟩
theorem at_ok (u : World) (h : Ck u G c now S) (k : Int) (hk : Wf k) : Calls Try.prog 19 #[.pointer (some ⟨c, 0, none⟩), .int .i64 k] u fun e u' => e = .returned (.tuple #[.int .i64 ((atM k S).getD 0), .bool (atM k S).isSome]) ∧ u' = u := by
  obtain ⟨mb, F, A, cap, l, h1, h2, _, _, h5, _⟩ := h.ex
  obtain ⟨_, c1, _⟩ := h1.ck.cells3
  rcases id_or l k with ⟨i, hi, rfl⟩ | hno
  · rw [at_of h5 h.srt (nth_mem hi)]
    have hr := h2.hit (nth_mem hi)
    obtain ⟨x0, x1, x2⟩ := (h1.als i hi).cells3
    simp only [Option.getD_some, Option.isSome_some]
    generalize nth l i = x at *
    clear h h1 h2 h5 hi hk
    go_enter Try.func19, Try.ntmps19
    go_wp2_with fail
    go_returns
    exact ⟨rfl, rfl⟩
  · rw [at_none h5 hno]
    have hr := h2.miss hk hno
    simp only [Option.getD_none, Option.isSome_none]
    clear h h1 h2 h5 hno hk
    go_enter Try.func19, Try.ntmps19
    go_wp2_with fail
    go_returns
    exact ⟨rfl, rfl⟩

theorem new_left (u : World) : Ck ((u.alloc (.map #[] 0)).alloc (.cells (ccells 0 u.heap.size none 0 0) 60)) [u.heap.size, u.heap.size + 1] (u.heap.size + 1) 0 [] ∧ Ke [] u ((u.alloc (.map #[] 0)).alloc (.cells (ccells 0 u.heap.size none 0 0) 60)) := by
  refine ⟨⟨⟨u.heap.size, [u.heap.size + 1], none, 0, [], ⟨Bk.here (by simp), .inl ⟨rfl, rfl, rfl⟩, fun i hi => by simp at hi, by simp, by simp, fun i hi => by simp at hi⟩, (Mp.made u).ke (L := []) ((Ke.refl _ _).alloc _) (by simp), by simp, fun c _ h => by simp at h, .refl _, by simp, by simp⟩, Srt.nil, by omega, by omega, by simp, by simp; omega⟩, ((Ke.refl [] u).alloc _).alloc _⟩
theorem new_ok (u : World) : Calls Try.prog 10 #[] u fun e u' => ∃ G c, e = .returned (.pointer (some ⟨c, 0, none⟩)) ∧ Ck u' G c 0 [] ∧ Ke [] u u' ∧ ∀ y ∈ G, u.heap.size ≤ y := by
  have HN := Lib.hid (new_left u)
  have hmm := @run_makeMap Try.prog
  go_enter Try.func10, Try.ntmps10
  go_wp2_with fail
  go_ret
  exact ⟨_, _, rfl, HN.out.1, HN.out.2, by simp⟩
end Go.Proofs.Ytdfllobdefodfaa
