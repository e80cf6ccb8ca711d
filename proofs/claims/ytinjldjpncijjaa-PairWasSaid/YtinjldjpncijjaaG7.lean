/- PrZ2, RowSort, PrSort, PrS, PrA, PrL, Lrk: texts of this seat, one behind the other. -/
import Derived.Test.YtinjldjpncijjaaPrZ
import Derived.Test.YtinjldjpncijjaaG4
import Derived.Test.YtinjldjpncijjaaG2
import Derived.Shelf.SlSortCmp.InsertionK
import Derived.Shelf.SlSortCmp.WholeK
import Derived.Shelf.SlicesG.Cmp
import Derived.Ground.SlsfProg
import Derived.Ground.SlgcProg
import Derived.Test.YtinjldjpncijjaaProg
/- The program's own table of pairs: Join, Part: their contracts. -/
namespace Go.Proofs.Ytinjldjpncijjaa
set_option linter.unusedVariables false
set_option maxRecDepth 100000
set_option linter.unusedSimpArgs false
open Go.RowKit Go.Maps

theorem dbl_len (l : List Pp) : (dblP l).length = 2 * l.length := by
  induction l with
  | nil => rfl
  | cons a r ih =>
    show ([(a.v, a), (a.c, a)] ++ dblP r).length = _
    rw [List.length_append, ih]
    simp
    omega
theorem evP_len (l : List Int) : (evP l).length = l.length := List.length_map ..
theorem dbl_new {t : Tp} (hg : Gp t) {k : Int} (h : k ∉ t.ev) : ∀ x ∈ dblP t.l, x.1 ≠ k := by
  rintro ⟨j, p⟩ hx e
  obtain ⟨h1, h2⟩ := mem_dbl.1 hx
  simp only at e
  exact h (by rw [← e]; exact hg.ev _ (ids_iff.2 ⟨p, h1, h2⟩))
theorem ev_new {ev : List Int} {k : Int} (h : k ∉ ev) : ∀ x ∈ evP ev, x.1 ≠ k := by
  rintro ⟨j, p⟩ hx e
  simp only at e
  exact h (by rw [← e]; exact mem_evP.1 hx)
theorem part_self {l : List Pp} {id : Int} (h : id ∉ idsL l) : partL l id = l := by
  unfold partL
  refine List.filter_eq_self.2 fun q hq => ?_
  cases hh : q.has id with
  | false => rfl
  | true => exact absurd (ids_iff.2 ⟨q, hq, hh⟩) h
theorem oth_mem {l : List Pp} (h : (idsL l).Nodup) {id x : Int} (e : othP l id = (x, true)) : x ∈ idsL l := by
  have hi : id ∈ idsL l := by
    apply Classical.byContradiction
    intro hn
    rw [← oth_none, e] at hn
    cases hn
  obtain ⟨p, hp, hh⟩ := ids_iff.1 hi
  rw [oth_of h hp hh] at e
  injection e with e _
  refine ids_iff.2 ⟨p, hp, ?_⟩
  rw [← e]
  split
  · exact has_c p
  · exact has_v p
section
variable {W u u' : World} {H H' : List Nat} {tb : Nat} {t : Tp}
set_option maxRecDepth 100000 in
set_option maxHeartbeats 4000000 in
theorem z_join (h : Zp W u H tb t) (hg : Gp t) (hf : t.l.length ≤ 1000 ∧ t.ev.length ≤ 2000) (v c : Int) (er : Int) (t2 : Tp) (hE : joinP t v c = (er, t2))
    (hwv : Wk t v := by first | exact Or.inr (by decide) | exact Or.inr (Hid.out (by assumption)) | exact Or.inl (Hid.out (by assumption))) (hwc : Wk t c := by first | exact Or.inr (by decide) | exact Or.inr (Hid.out (by assumption)) | exact Or.inl (Hid.out (by assumption))) :
    Calls Try.prog 14 #[.pointer (some ⟨tb, 0, none⟩), .int .i64 v, .int .i64 c] u fun e u' => ∃ H', e = .returned (.int .i64 er) ∧ Zp W u' H' tb t2 ∧ Sp u u' H H' := by
  have HZ := Lib.hid h
  have hv1 := h.wk hwv
  have hc1 := h.wk hwc
  rcases join_cases t v c with ⟨hb, hj⟩ | ⟨hb, hin, hj⟩ | ⟨hb, hin, hj⟩
  · rw [hj] at hE
    injection hE with e1 e2
    subst e1; subst e2
    clear h hg hf hwv hwc hv1 hc1 hj
    rcases Classical.em (v < 1) with hx | hx
    · have hx2 : decide (v < 1) = true := decide_eq_true hx
      clear hb
      go_enter Try.func14, Try.ntmps14
      go_wp2_with fail
      go_ret
      first | exact ⟨H, rfl, HZ.out, Sp.refl _ _⟩ | exact ⟨rfl, H, HZ.out, Sp.refl _ _⟩
    · have hx2 : decide (v < 1) = false := decide_eq_false hx
      rcases Classical.em (c < 1) with hy | hy
      · have hy2 : decide (c < 1) = true := decide_eq_true hy
        clear hb
        go_enter Try.func14, Try.ntmps14
        go_wp2_with fail
        go_ret
        first | exact ⟨H, rfl, HZ.out, Sp.refl _ _⟩ | exact ⟨rfl, H, HZ.out, Sp.refl _ _⟩
      · have hy2 : decide (c < 1) = false := decide_eq_false hy
        have hz : (v == c) = true := by
          rcases hb with hb | hb | hb
          · exact absurd hb hx
          · exact absurd hb hy
          · simp [hb]
        clear hb
        go_enter Try.func14, Try.ntmps14
        go_wp2_with fail
        go_ret
        first | exact ⟨H, rfl, HZ.out, Sp.refl _ _⟩ | exact ⟨rfl, H, HZ.out, Sp.refl _ _⟩
  · rw [hj] at hE
    injection hE with e1 e2
    subst e1; subst e2
    have hx : ¬ v < 1 := fun e => hb (.inl e)
    have hy : ¬ c < 1 := fun e => hb (.inr (.inl e))
    have hx2 : decide (v < 1) = false := decide_eq_false hx
    have hy2 : decide (c < 1) = false := decide_eq_false hy
    have hz : (v == c) = false := by
      cases hq : (v == c) with
      | false => rfl
      | true => exact absurd (.inr (.inr (by simpa using hq))) hb
    by_cases hv : v ∈ t.ev
    · have HW1 := Lib.hid (z_was h hg hf v true (decide_eq_true hv) hwv)
      clear h hg hf hwv hwc hv1 hc1 hj hb hin hv
      go_enter Try.func14, Try.ntmps14
      go_wp2_with (go_at_call 18; (with_reducible refine HW1.out.mono ?_); rintro e u1 ⟨rfl, h1⟩; have HB1 := Lib.hid h1; clear h1)
      go_ret
      exact ⟨H, rfl, HZ.out.on HB1.out, (Ke.of HB1.out).sp⟩
    · have hc : c ∈ t.ev := hin.resolve_left hv
      have HW1 := Lib.hid (z_was h hg hf v false (decide_eq_false hv) hwv)
      have HW2 := Lib.hid (fun u1 (hb : Below u.heap.size u u1) => z_was (h.on hb) hg hf c true (decide_eq_true hc) hwc)
      clear h hg hf hwv hwc hv1 hc1 hj hb hin hv hc
      go_enter Try.func14, Try.ntmps14
      go_wp2_with (first
        | (go_at_call 18; (with_reducible refine HW1.out.mono ?_); rintro e u1 ⟨rfl, h1⟩; have HB1 := Lib.hid h1; clear h1)
        | (go_at_call 18; (with_reducible refine (HW2.out _ HB1.out).mono ?_); rintro e u2 ⟨rfl, h1⟩; have HB2 := Lib.hid (HB1.out.trans (h1.mono HB1.out.size)); clear h1))
      go_ret
      exact ⟨H, rfl, HZ.out.on HB2.out, (Ke.of HB2.out).sp⟩
  · rw [hj] at hE
    injection hE with e1 e2
    subst e1; subst e2
    have hx : ¬ v < 1 := fun e => hb (.inl e)
    have hy : ¬ c < 1 := fun e => hb (.inr (.inl e))
    have hx2 : decide (v < 1) = false := decide_eq_false hx
    have hy2 : decide (c < 1) = false := decide_eq_false hy
    have hz : (v == c) = false := by
      cases hq : (v == c) with
      | false => rfl
      | true => exact absurd (.inr (.inr (by simpa using hq))) hb
    have hv : v ∉ t.ev := fun e => hin (.inl e)
    have hc : c ∉ t.ev := fun e => hin (.inr e)
    have HNE := Lib.hid (show v ≠ c from fun e => hb (.inr (.inr e)))
    have HW1 := Lib.hid (z_was h hg hf v false (decide_eq_false hv) hwv)
    have HW2 := Lib.hid (fun u1 (hb : Below u.heap.size u u1) => z_was (h.on hb) hg hf c false (decide_eq_false hc) hwc)
    have HD1 := Lib.hid (dbl_new hg hv)
    have HD2 := Lib.hid (dbl_new hg hc)
    have HE1 := Lib.hid (ev_new hv)
    have HE2 := Lib.hid (ev_new hc)
    have HV := Lib.hid hv1
    have HC := Lib.hid hc1
    have HF := Lib.hid (show (dblP t.l).length ≤ 2000 ∧ (evP t.ev).length ≤ 2000 from ⟨by rw [dbl_len]; omega, by rw [evP_len]; exact hf.2⟩)
    clear h hg hf hwv hwc hv1 hc1 hj hb hin hv hc
    go_enter Try.func14, Try.ntmps14
    go_upto_region 5 with (first
      | (go_at_call 18; (with_reducible refine HW1.out.mono ?_); rintro e u1 ⟨rfl, h1⟩; have HB1 := Lib.hid h1; clear h1)
      | (go_at_call 18; (with_reducible refine (HW2.out _ HB1.out).mono ?_); rintro e u2 ⟨rfl, h1⟩; have HB2 := Lib.hid (HB1.out.trans (h1.mono HB1.out.size)); clear h1))
    have HZ2 := Lib.hid (HZ.out.on HB2.out)
    obtain ⟨mp, me, k1, k2, k3, k4, k5, k6⟩ := HZ2.out.ex
    have HK0 := Lib.hid (show Ke [] u2 (u2.alloc (.cells #[.int .i64 v, .int .i64 c] 43)) from (Ke.refl [] u2).alloc _)
    have HP := Lib.hid (Bk.new u2 43 #[.int .i64 v, .int .i64 c])
    have b0 : (u2.alloc (.cells #[.int .i64 v, .int .i64 c] 43)).cell? ⟨u2.heap.size, 0, none⟩ = some (.int .i64 v) := HP.out.cell 0
    have b1 : (u2.alloc (.cells #[.int .i64 v, .int .i64 c] 43)).cell? ⟨u2.heap.size, 1, none⟩ = some (.int .i64 c) := HP.out.cell 1
    have P1 := Lib.hid (put_okP (k1.alloc (.cells #[.int .i64 v, .int .i64 c] 43)) (k2.ke HK0.out (by simp)) (k3.ke HK0.out (by simp)) k4 (by have := HF.out.1; omega) (by have := HF.out.2; omega) v ⟨v, c⟩ HV.out HD1.out HE1.out)
    have HMM := Lib.hid (show mp ≠ me ∧ mp ∈ H ∧ me ∈ H ∧ u2.heap.size ∉ [mp, me] from ⟨k4, k5, k6, by have := HZ2.out.hi mp k5; have := HZ2.out.hi me k6; simp; omega⟩)
    clear k1 k2 k3 k4 k5 k6
    go_upto_region 7 with (go_at_call 23; (with_reducible refine P1.out.mono ?_); rintro e u3 ⟨rfl, j1, j2, j3, j4⟩; have HJ := Lib.hid (And.intro j1 (And.intro j2 (And.intro j3 j4))); clear j1 j2 j3 j4)
    have HP3 := Lib.hid (HP.out.ke HJ.out.2.2.2 HMM.out.2.2.2)
    have d0 : u3.cell? ⟨u2.heap.size, 0, none⟩ = some (.int .i64 v) := HP3.out.cell 0
    have d1 : u3.cell? ⟨u2.heap.size, 1, none⟩ = some (.int .i64 c) := HP3.out.cell 1
    have P2 := Lib.hid (put_okP HJ.out.1 HJ.out.2.1 HJ.out.2.2.1 HMM.out.1 (by have := HF.out.1; simp; omega) (by have := HF.out.2; simp; omega) c ⟨v, c⟩ HC.out
      (fun x hx => by rcases List.mem_cons.1 hx with rfl | hx; exact HNE.out; exact HD2.out x hx) (fun x hx => by rcases List.mem_cons.1 hx with rfl | hx; exact HNE.out; exact HE2.out x hx))
    clear b0 b1
    go_wp2_with (go_at_call 23; (with_reducible refine P2.out.mono ?_); rintro e u4 ⟨rfl, j1, j2, j3, j4⟩; have HQ := Lib.hid (And.intro j1 (And.intro j2 (And.intro j3 j4))); clear j1 j2 j3 j4)
    go_ret
    have hsub : ∀ y ∈ [mp, me], y ∈ H := by
      intro y hy
      simp only [List.mem_cons, List.not_mem_nil, or_false] at hy
      rcases hy with rfl | rfl
      · exact HMM.out.2.1
      · exact HMM.out.2.2.1
    have kk : Ke [mp, me] u2 u4 := ((HK0.out.more (by simp)).trans HJ.out.2.2.2).trans HQ.out.2.2.2
    have ku : Ke H u u4 := ((Ke.of HB2.out).more (by simp)).trans (kk.more hsub)
    exact ⟨H, rfl, ⟨⟨mp, me, HQ.out.1, HQ.out.2.1.perm (dbl_ins ⟨v, c⟩ t.l), HQ.out.2.2.1.perm (ev_app t.ev v c), HMM.out.1, HMM.out.2.1, HMM.out.2.2.1⟩, HZ.out.tb, HZ.out.l.trans (ku.below HZ.out.l.size HZ.out.lo), HZ.out.lo, fun y hy => Nat.lt_of_lt_of_le (HZ.out.hi y hy) ku.size⟩, Sp.of ku⟩
set_option maxRecDepth 100000 in
set_option maxHeartbeats 4000000 in
theorem z_part (h : Zp W u H tb t) (hg : Gp t) (hf : t.l.length ≤ 1000 ∧ t.ev.length ≤ 2000) (id : Int) (x : Int) (b : Bool) (t2 : Tp) (hE : partP t id = ((x, b), t2)) (hw : Wk t id := by first | exact Or.inr (by decide) | exact Or.inr (Hid.out (by assumption)) | exact Or.inl (Hid.out (by assumption))) :
    Calls Try.prog 12 #[.pointer (some ⟨tb, 0, none⟩), .int .i64 id] u fun e u' => ∃ H', e = .returned (.tuple #[.int .i64 x, .bool b]) ∧ Zp W u' H' tb t2 ∧ Sp u u' H H' := by
  have HZ := Lib.hid h
  unfold partP at hE
  injection hE with hO e2
  subst e2
  have HO := Lib.hid (z_other h hg hf id x b hO hw)
  cases b with
  | false =>
    have hi : id ∉ idsL t.l := oth_none.1 (by rw [hO])
    have hx : x = 0 := by
      have h7 := hO
      unfold othP at h7
      split at h7
      · injection h7 with h7 _; exact h7.symm
      · injection h7 with _ h7; cases h7
    subst hx
    have HP := Lib.hid (part_self hi)
    clear h hg hf hw hO hi
    go_enter Try.func12, Try.ntmps12
    go_wp2_with (go_at_call 16; (with_reducible refine HO.out.mono ?_); rintro e u1 ⟨rfl, h1⟩; have HB1 := Lib.hid h1; clear h1)
    go_ret2
    exact ⟨H, rfl, by rw [HP.out]; exact HZ.out.on HB1.out, (Ke.of HB1.out).sp⟩
  | true =>
    have hi : id ∈ idsL t.l := by
      apply Classical.byContradiction
      intro hn
      rw [← oth_none, hO] at hn
      cases hn
    obtain ⟨p, hp, hh⟩ := ids_iff.1 hi
    have hx : (if p.v = id then p.c else p.v) = x := by
      rw [oth_of hg.nd hp hh] at hO
      injection hO
    have HPM := Lib.hid (dbl_out2 hg.nd hp hh hx)
    clear h hg hf hw hO hi hp hh hx
    go_enter Try.func12, Try.ntmps12
    go_upto_region 4 with (go_at_call 16; (with_reducible refine HO.out.mono ?_); rintro e u1 ⟨rfl, h1⟩; have HB1 := Lib.hid h1; clear h1)
    have HZ1 := Lib.hid (HZ.out.on HB1.out)
    obtain ⟨mp, me, k1, k2, k3, k4, k5, k6⟩ := HZ1.out.ex
    have c0 : u1.cell? ⟨tb, 0, none⟩ = some (.map (some mp)) := k1.cell 0
    have HM1 := Lib.hid (k2.perm HPM.out)
    have HBK := Lib.hid (fun u2 (k : Ke [mp] u1 u2) => show Bk u2 tb 51 #[.map (some mp), .map (some me)] from k1.ke k (by simpa using bk_mapN k1 k2.block))
    have HMM := Lib.hid (And.intro k4 (And.intro k5 k6))
    have HE1 := Lib.hid k3
    clear k1 k2 k3 k4 k5 k6
    go_upto_region 5 with (at_delete; refine wp_ndrop rfl (.tmp 19) (.tmp 20) HM1.out kinP rfl rfl rfl ?_; intro w2 j1 j2; have HM2 := Lib.hid j1; have HK2 := Lib.hid j2; clear j1 j2)
    have HB2 := Lib.hid (HBK.out w2 HK2.out)
    have c2 : w2.cell? ⟨tb, 0, none⟩ = some (.map (some mp)) := HB2.out.cell 0
    go_wp2_with (at_delete; refine wp_ndrop rfl (.tmp 24) (.tmp 25) HM2.out kinP rfl rfl rfl ?_; intro w3 j1 j2; have HM3 := Lib.hid j1; have HK3 := Lib.hid (HK2.out.trans j2); clear j1 j2)
    go_ret2
    have ku : Ke H u w3 := ((Ke.of HB1.out).more (by simp)).trans (HK3.out.more (fun y hy => by rw [List.mem_singleton.1 hy]; exact HMM.out.2.1))
    exact ⟨H, rfl, ⟨⟨mp, me, HBK.out w3 HK3.out, HM3.out, HE1.out.ke HK3.out (by simpa using HMM.out.1.symm), HMM.out⟩, HZ.out.tb, HZ.out.l.trans (ku.below HZ.out.l.size HZ.out.lo), HZ.out.lo, fun y hy => Nat.lt_of_lt_of_le (HZ.out.hi y hy) ku.size⟩, Sp.of ku⟩
end
end Go.Proofs.Ytinjldjpncijjaa

/- Rows of k cells in the words of the sort's contracts, and back. Nothing of the program is named here. -/
namespace Go.Proofs.Ytinjldjpncijjaa
set_option linter.unusedVariables false
set_option maxRecDepth 100000
set_option linter.unusedSimpArgs false
open Go.RowKit

section
variable {β : Type} [Inhabited β] {e : TypeId} {k : Nat} {f : β → Array Value} {w : World} {B g c : Nat} {l : List β}
abbrev encK (f : β → Array Value) (x : β) : List Value := (f x).toList
theorem flatK_fl (hf : ∀ x, (f x).size = k) (hk : 0 < k) (l : List β) : (Go.Sort.flatK (encK f) k l.toArray).toList = fl f l := by
  apply List.ext_getElem?
  intro t
  by_cases ht : t < l.length * k
  · have hi : t / k < l.length := Nat.div_lt_of_lt_mul (by rw [Nat.mul_comm]; exact ht)
    have hj : t % k < k := Nat.mod_lt _ hk
    have h1 := fl_at hf l (t / k) hi (t % k) hj
    rw [Nat.div_add_mod'] at h1
    rw [h1]
    have h2 : t < (Go.Sort.flatK (encK f) k l.toArray).size := by rw [Go.Sort.size_flatK]; simpa using ht
    rw [Array.getElem?_toList, Array.getElem?_eq_getElem h2]
    have h3 := Go.Sort.get_flatK (encK f) k l.toArray t (by simpa using ht)
    rw [getElem!_pos _ t h2] at h3
    rw [h3]
    have h4 : (l.toArray)[t / k]! = l[t / k] := by rw [getElem!_pos _ _ (by simpa using hi)]; simp
    rw [h4]
    have h5 : t % k < (f l[t / k]).size := by rw [hf]; exact hj
    rw [Array.getElem?_eq_getElem h5, getElem!_pos _ _ (by simpa using h5)]
    simp
  · rw [List.getElem?_eq_none (by rw [Array.length_toList, Go.Sort.size_flatK]; simpa using ht), List.getElem?_eq_none (by rw [fl_length hf]; omega)]
theorem ow_holds (hf : ∀ x, (f x).size = k) (hk : 0 < k) (h : Ow e k f w B (some ⟨g, 0, none⟩) c l) : Go.Sort.HoldsK (encK f) k w g 0 l.toArray ∧ g < w.heap.size ∧ B ≤ g := by
  rcases h.2 with ⟨e0, _⟩ | ⟨g', cap', cur, e0, hb, hg, hn, hm, hs, ht⟩
  · cases e0
  · injection e0 with e1 _ e3
    injection e1 with e1
    injection e1 with e1
    subst e1; subst e3
    have hlt : g < w.heap.size := lt_of_block hg
    refine ⟨fun j hj => ⟨?_, by simp [World.frozen?, hg]⟩, hlt, hb⟩
    have hj' : j < l.length * k := by rw [Go.Sort.size_flatK] at hj; simpa using hj
    have e1 : (cur.toList.take (l.length * k))[j]? = (fl f l)[j]? := by rw [ht]
    rw [← flatK_fl hf hk, List.getElem?_take, if_pos hj', Array.getElem?_toList, Array.getElem?_toList, Array.getElem?_eq_getElem hj] at e1
    simp only [World.cell?, hg, Nat.zero_add]
    simp only [Option.isSome_none, Bool.false_eq_true, if_false]
    rw [e1, getElem!_pos _ j hj]
    rfl
theorem ow_put (hf : ∀ x, (f x).size = k) (hk : 0 < k) (h : Ow e k f w B (some ⟨g, 0, none⟩) c l) {l' : List β} (hl : l'.length = l.length) (q : Nat) (os : Array Obj) :
    Ow e k f (Go.Sort.grow (Go.Sort.putRowK (encK f) k (Go.Sort.ahead w q) g 0 l'.toArray) os) B (some ⟨g, 0, none⟩) c l' := by
  rcases h.2 with ⟨e0, _⟩ | ⟨g', cap', cur, e0, hb, hg, hn, hm, hs, ht⟩
  · cases e0
  · injection e0 with e1 _ e3
    injection e1 with e1
    injection e1 with e1
    subst e1; subst e3
    have hlt : g < w.heap.size := lt_of_block hg
    have hF : (Go.Sort.flatK (encK f) k l'.toArray).size = l.length * k := by rw [Go.Sort.size_flatK]; simp [hl]
    refine ⟨fl_length hf l', .inr ⟨g, c, Go.Sort.putCells id 0 (Go.Sort.flatK (encK f) k l'.toArray) cur, rfl, hb, ?_, by rw [hl]; exact hn, hm, by simpa [Go.Sort.putCells] using hs, ?_⟩⟩
    · show (w.heap.modify g (Go.Sort.onCells _) ++ os)[g]? = _
      rw [Array.getElem?_append_left (by simpa using hlt), Array.getElem?_modify, if_pos rfl, hg]
      rfl
    · have hkc : l.length * k ≤ cur.size := by rw [hs]; exact Nat.mul_le_mul_right k hn
      apply List.ext_getElem?
      intro j
      rw [List.getElem?_take, hl]
      by_cases hj : j < l.length * k
      · rw [if_pos hj, Array.getElem?_toList, ← flatK_fl hf hk l', Array.getElem?_toList]
        simp only [Go.Sort.putCells, Array.getElem?_mapIdx, Array.getElem?_eq_getElem (show j < cur.size by omega), Option.map_some, Nat.zero_le, Nat.zero_add, Nat.sub_zero, true_and]
        rw [if_pos (by rw [hF]; exact hj), Array.getElem?_eq_getElem (by rw [hF]; exact hj), getElem!_pos _ j (by rw [hF]; exact hj)]
        rfl
      · rw [if_neg hj, List.getElem?_eq_none (by rw [fl_length hf, hl]; omega)]
theorem ke_sorted (enc : β → List Value) (k : Nat) (w : World) (g q : Nat) (d : Array β) (os : Array Obj) : Ke [g] w (Go.Sort.grow (Go.Sort.putRowK enc k (Go.Sort.ahead w q) g 0 d) os) := by
  refine ⟨rfl, rfl, rfl, ?_, fun j hj hn => ?_⟩
  · show w.heap.size ≤ (w.heap.modify g _ ++ os).size
    simp
  · show (w.heap.modify g (Go.Sort.onCells _) ++ os)[j]? = _
    have hg : ¬ g = j := fun e => hn (by simp [e])
    rw [Array.getElem?_append_left (by simpa using hj), Array.getElem?_modify, if_neg hg]
/-- Sorted by a number, all numbers unlike: there is one such row. -/
theorem sorted_one {v : β → Int} {cf : β → β → Int} (hcf : ∀ x y, cf x y < 0 ↔ v x < v y) {l l' : List β} {d' : Array β} (hp : Go.Sort.PermIn 0 l.toArray.size l.toArray d') (hs : Go.Sort.SortedIn (ltOf cf) 0 l.toArray.size d')
    (hl : l.Perm l') (hu : l'.Pairwise (fun a b => v a < v b)) : d' = l'.toArray := by
  obtain ⟨h1, _, h2⟩ := hp
  have e1 : d'.extract 0 l.toArray.size = d' := by rw [← h1]; exact Array.extract_size
  rw [e1, Array.extract_size] at h2
  have h3 : d'.toList.Perm l' := h2.trans hl
  have h4 : d'.toList.Pairwise (fun a b => v a ≤ v b) := by
    rw [List.pairwise_iff_getElem]
    intro i j hi hj hij
    have hi' : i < d'.size := by simpa using hi
    have hj' : j < d'.size := by simpa using hj
    have := hs i j (Nat.zero_le _) hij (by rw [← h1]; exact hj')
    rw [getElem!_pos _ i hi', getElem!_pos _ j hj'] at this
    unfold ltOf at this
    rw [decide_eq_false_iff_not, hcf] at this
    simp only [Array.getElem_toList]
    omega
  have h5 : d'.toList = l' := by
    refine List.Perm.eq_of_pairwise (le := fun a b => v a ≤ v b) ?_ h4 (hu.imp fun h => Int.le_of_lt h) h3
    intro a b ha hb h6 h7
    have ha' : a ∈ l' := h3.mem_iff.1 ha
    have hb' : b ∈ l' := by first | exact hb | exact h3.mem_iff.1 hb
    obtain ⟨i, hi, rfl⟩ := List.mem_iff_getElem.1 ha'
    obtain ⟨j, hj, rfl⟩ := List.mem_iff_getElem.1 hb'
    have hp := List.pairwise_iff_getElem.1 hu
    rcases Nat.lt_trichotomy i j with hij | rfl | hij
    · have := hp i j hi hj hij; omega
    · rfl
    · have := hp j i hj hi hij; omega
  rw [← h5]
end
end Go.Proofs.Ytinjldjpncijjaa

/- Contracts of slices.SortFunc and cmp.Compare over this program, laid by the kit's own command. (Written by gen_prsort.py.) -/
namespace Go.Proofs
open Go.Shelf
def Try.sortP_ren : Go.Shelf.Ren := ⟨fun | 6 => 24 | 15 => 28 | 14 => 27 | 28 => 38 | 29 => 39 | 20 => 30 | 21 => 31 | 22 => 32 | 23 => 33 | 24 => 34 | 25 => 35 | 26 => 36 | 27 => 37 | 46 => 40 | 47 => 41 | 48 => 42 | 49 => 43 | 50 => 44 | 57 => 45 | n => n, fun | 22 => 36 | 24 => 43 | 25 => 58 | 3 => 3 | 39 => 61 | 0 => 0 | 53 => 70 | 55 => 72 | 4 => 4 | 46 => 64 | 45 => 63 | 50 => 30 | 5 => 5 | 9 => 9 | 66 => 73 | 70 => 77 | 76 => 79 | 77 => 80 | n => n, fun | n => n⟩
theorem Try.sortP : Go.Proofs.SlLaysF0.n6 Try.prog Try.sortP_ren := {
  mixed := by kernel_rfl
  f6 := ⟨Try.f24.name, by decide, Try.func24.trans (congrArg some (by kernel_rfl))⟩
  f14 := ⟨Try.f27.name, by decide, Try.func27.trans (congrArg some (by kernel_rfl))⟩
  f15 := Try.func28.trans (congrArg some (by kernel_rfl))
  f20 := ⟨Try.f30.name, by decide, Try.func30.trans (congrArg some (by kernel_rfl))⟩
  f21 := ⟨Try.f31.name, by decide, Try.func31.trans (congrArg some (by kernel_rfl))⟩
  f22 := ⟨Try.f32.name, by decide, Try.func32.trans (congrArg some (by kernel_rfl))⟩
  f23 := ⟨Try.f33.name, by decide, Try.func33.trans (congrArg some (by kernel_rfl))⟩
  f24 := ⟨Try.f34.name, by decide, Try.func34.trans (congrArg some (by kernel_rfl))⟩
  f25 := ⟨Try.f35.name, by decide, Try.func35.trans (congrArg some (by kernel_rfl))⟩
  f26 := ⟨Try.f36.name, by decide, Try.func36.trans (congrArg some (by kernel_rfl))⟩
  f27 := ⟨Try.f37.name, by decide, Try.func37.trans (congrArg some (by kernel_rfl))⟩
  f28 := Try.func38.trans (congrArg some (by kernel_rfl))
  f29 := Try.func39.trans (congrArg some (by kernel_rfl))
  f46 := ⟨Try.f40.name, by decide, Try.func40.trans (congrArg some (by kernel_rfl))⟩
  f47 := Try.func41.trans (congrArg some (by kernel_rfl))
  f48 := Try.func42.trans (congrArg some (by kernel_rfl))
  f49 := ⟨Try.f43.name, by decide, Try.func43.trans (congrArg some (by kernel_rfl))⟩
  f50 := ⟨Try.f44.name, by decide, Try.func44.trans (congrArg some (by kernel_rfl))⟩
  f57 := ⟨Try.f45.name, by decide, Try.func45.trans (congrArg some (by kernel_rfl))⟩
  t0 := Try.underlying0
  a0 := Try.isAgg0
  z0 := Try.sizeOf0
  v0 := Try.zeroValue0
  t3 := Try.underlying3
  a3 := Try.isAgg3
  z3 := Try.sizeOf3
  v3 := Try.zeroValue3
  t4 := Try.underlying4
  a4 := Try.isAgg4
  z4 := Try.sizeOf4
  v4 := Try.zeroValue4
  t5 := Try.underlying5
  a5 := Try.isAgg5
  z5 := Try.sizeOf5
  v5 := Try.zeroValue5
  t9 := Try.underlying9
  a9 := Try.isAgg9
  z9 := Try.sizeOf9
  v9 := Try.zeroValue9
  t22 := Try.underlying36
  a22 := Try.isAgg36
  z22 := Try.sizeOf36
  v22 := Try.zeroValue36
  t25 := Try.underlying58
  a25 := Try.isAgg58
  z25 := Try.sizeOf58
  v25 := Try.zeroValue58
  t39 := Try.underlying61
  a39 := Try.isAgg61
  z39 := Try.sizeOf61
  v39 := Try.zeroValue61
  t45 := Try.underlying63
  a45 := Try.isAgg63
  z45 := Try.sizeOf63
  v45 := Try.zeroValue63
  t46 := Try.underlying64
  a46 := Try.isAgg64
  z46 := Try.sizeOf64
  v46 := Try.zeroValue64
  t50 := Try.underlying30
  a50 := Try.isAgg30
  z50 := Try.sizeOf30
  v50 := Try.zeroValue30
  t53 := Try.underlying70
  a53 := Try.isAgg70
  z53 := Try.sizeOf70
  v53 := Try.zeroValue70
  t55 := Try.underlying72
  a55 := Try.isAgg72
  z55 := Try.sizeOf72
  v55 := Try.zeroValue72
  t66 := Try.underlying73
  a66 := Try.isAgg73
  z66 := Try.sizeOf73
  v66 := Try.zeroValue73
  t70 := Try.underlying77
  a70 := Try.isAgg77
  z70 := Try.sizeOf77
  v70 := Try.zeroValue77
  t76 := Try.underlying79
  a76 := Try.isAgg79
  z76 := Try.sizeOf79
  v76 := Try.zeroValue79
  t77 := Try.underlying80
  a77 := Try.isAgg80
  z77 := Try.sizeOf80
  v77 := Try.zeroValue80 }
def Try.cmpP_ren : Go.Shelf.Ren := ⟨fun | 5 => 26 | 7 => 29 | n => n, fun | 22 => 3 | 3 => 3 | 4 => 4 | n => n, fun | n => n⟩
theorem Try.cmpP : Go.Proofs.SlLaysC2.n5 Try.prog Try.cmpP_ren := {
  mixed := by kernel_rfl
  f5 := ⟨Try.f26.name, by decide, Try.func26.trans (congrArg some (by kernel_rfl))⟩
  f7 := ⟨Try.f29.name, by decide, Try.func29.trans (congrArg some (by kernel_rfl))⟩
  t3 := Try.underlying3
  a3 := Try.isAgg3
  z3 := Try.sizeOf3
  v3 := Try.zeroValue3
  t4 := Try.underlying4
  a4 := Try.isAgg4
  z4 := Try.sizeOf4
  v4 := Try.zeroValue4
  t22 := Try.underlying3
  a22 := Try.isAgg3
  z22 := Try.sizeOf3
  v22 := Try.zeroValue3 }
end Go.Proofs

/- slices.SortFunc at the pairs of a table, by their visitors: its contract. -/
namespace Go.Proofs.Ytinjldjpncijjaa
set_option linter.unusedVariables false
set_option maxRecDepth 100000
set_option linter.unusedSimpArgs false
open Go.RowKit

instance : Inhabited Pp := ⟨⟨0, 0⟩⟩
abbrev pcf (x y : Pp) : Int := Lib.compareInt x.v y.v
theorem pcf_lt (x y : Pp) : pcf x y < 0 ↔ x.v < y.v := by
  unfold pcf Lib.compareInt
  by_cases h1 : x.v < y.v
  · simp [h1]
  · by_cases h2 : y.v < x.v <;> simp [h1, h2]
theorem pcf_swo : Go.Sort.SWO (ltOf pcf) where
  irrefl x := by unfold ltOf; rw [decide_eq_false_iff_not, pcf_lt]; omega
  trans x y z h1 h2 := by
    unfold ltOf at *
    rw [decide_eq_true_iff, pcf_lt] at *
    omega
  ntrans x y z h1 h2 := by
    unfold ltOf at *
    rw [decide_eq_false_iff_not, pcf_lt] at *
    omega
set_option maxRecDepth 100000 in
set_option maxHeartbeats 2000000 in
theorem pcls_ok (x y : Pp) (W : World) : Calls Try.prog 25 #[.agg #[.int .i64 x.v, .int .i64 x.c], .agg #[.int .i64 y.v, .int .i64 y.c]] W fun e w' => e = .returned (.int .i64 (pcf x y)) ∧ ∃ q os', w' = Go.Sort.grow (W.drewN q) os' := by
  have hcon := fun W' => AnyG.cmp_Compare_int Try.cmpP x.v y.v W'
  change ∀ W', Calls Try.prog 26 _ _ _ at hcon
  unfold pcf
  generalize Lib.compareInt x.v y.v = r at hcon ⊢
  go_enter Try.func25, Try.ntmps25
  go_wp2_with (go_at_call 26; refine (hcon _).mono ?_; rintro e w' ⟨rfl, rfl⟩)
  go_ret
  exact ⟨rfl, 0, _, by rw [Go.Sort.alloc_eq_grow, Go.Sort.alloc_eq_grow, Go.Sort.grow_grow]; rfl⟩
theorem psort_ok (u : World) (B g c n : Nat) (l l' : List Pp) (h : Ow 43 2 ppc u B (some ⟨g, 0, none⟩) c l) (hn : l.length = n) (hf : n ≤ 1000000) (hp : l.Perm l') (hu : l'.Pairwise (fun a b => a.v < b.v)) :
    Calls Try.prog 24 #[.slice (some ⟨g, 0, none⟩) n c, .func (.func 25) #[] #[]] u fun e u' => e = .returned (.tuple #[]) ∧ Ow 43 2 ppc u' B (some ⟨g, 0, none⟩) c l' ∧ Ke [g] u u' := by
  obtain ⟨hH, hg, hB⟩ := ow_holds (f := ppc) (k := 2) (fun _ => rfl) (by decide) h
  have eg : ∀ args w, (callFunc 25 args).run Try.prog w = .ok (.enter 25 args) w := enters_of Try.func25 (by kernel_rfl) rfl
  have hcon := AnyQ.slices_SortFunc Try.sortP 2 Try.isAgg43 Try.sizeOf43 (encK ppc) (fun _ => rfl) (fun x v hv => by simp [encK] at hv; rcases hv with rfl | rfl <;> rfl) pcf pcf_swo 25 #[] g 0 c l.toArray u eg (fun _ _ _ _ x y => pcls_ok x y _) hH hg (by simp; omega)
  change Calls Try.prog 24 _ _ _ at hcon
  have hs : l.toArray.size = n := by simpa using hn
  rw [hs] at hcon
  refine hcon.mono ?_
  rintro e u' ⟨rfl, d', q, os, h1, h2, rfl⟩
  have e1 := sorted_one (v := Pp.v) (fun x y => pcf_lt x y) (by rw [hs]; exact h1) (by rw [hs]; exact h2) hp hu
  subst e1
  exact ⟨rfl, ow_put (f := ppc) (k := 2) (fun _ => rfl) (by decide) h hp.length_eq.symm q os, ke_sorted (encK ppc) 2 u g q l'.toArray os⟩
set_option maxRecDepth 100000 in
set_option maxHeartbeats 2000000 in
theorem pins_none (u : World) (p : Option Addr) (c : Nat) (fv : Value) :
    Calls Try.prog 30 #[.slice p 0 c, .int .i64 0, .int .i64 0, fv] u fun e u' => e = .returned (.tuple #[]) ∧ u' = u := by
  go_enter Try.func30, Try.ntmps30
  go_wp2
  refine wp_loop_rounds 1 ?_
  rw [rounds_succ]
  go_wp2
  go_end0
  exact ⟨rfl, rfl⟩
set_option maxRecDepth 100000 in
set_option maxHeartbeats 2000000 in
theorem ppdq_none (u : World) (p : Option Addr) (c : Nat) (lim : Int) (fv : Value) :
    Calls Try.prog 27 #[.slice p 0 c, .int .i64 0, .int .i64 0, .int .i64 lim, fv] u fun e u' => e = .returned (.tuple #[]) ∧ u' = u := by
  have HI := Lib.hid (fun W => pins_none W p c fv)
  go_enter Try.func27, Try.ntmps27
  go_wp2
  refine wp_loop_rounds 1 ?_
  rw [rounds_succ]
  go_wp2_with (go_at_call 30; (with_reducible refine (HI.out _).mono ?_); rintro e w2 ⟨rfl, hw⟩; rw [hw]; clear hw)
  (try simp only [Exit.inBlock, Exit.then]); refine bodyPost_ret (results_none rfl _ _ _) rfl ?_
  exact ⟨rfl, rfl⟩
set_option maxRecDepth 100000 in
set_option maxHeartbeats 2000000 in
theorem psort_none (u : World) (p : Option Addr) (c : Nat) (fv : Value) :
    Calls Try.prog 24 #[.slice p 0 c, fv] u fun e u' => e = .returned (.tuple #[]) ∧ u' = u := by
  have HP := Lib.hid (fun lim W => ppdq_none W p c lim fv)
  have HL := Lib.hid (fun W => show Calls Try.prog 28 #[.int .u64 0] W fun e w' => e = .returned (.int .i64 (Lib.bitLen 0 : Nat)) ∧ w' = W from
    Any.bits_Len (SlLaysF0.n15.bits (P := Try.prog) (ρ := Try.sortP_ren) { Try.sortP with }) 0 W (by omega) (by omega))
  go_enter Try.func24, Try.ntmps24
  go_wp2_with (first
    | (go_at_call 28; (with_reducible refine (HL.out _).mono ?_); rintro e w2 ⟨rfl, hw⟩; rw [hw]; clear hw)
    | (go_at_call 27; (with_reducible refine (HP.out _ _).mono ?_); rintro e w2 ⟨rfl, hw⟩; rw [hw]; clear hw))
  go_end0
  exact ⟨rfl, rfl⟩
end Go.Proofs.Ytinjldjpncijjaa

/- The program's own table of pairs: All: its contract. -/
namespace Go.Proofs.Ytinjldjpncijjaa
set_option linter.unusedVariables false
set_option maxRecDepth 100000
set_option linter.unusedSimpArgs false
open Go.RowKit Go.Maps

theorem ke_row {w w' : World} {o : Option Nat} (h : w.grownBy w' o) : Ke o.toList w w' := by
  cases o with
  | none => exact Ke.grown0 h
  | some g => exact Ke.grown h
/-- What a range over the pairs has gathered: those whose visitor's entry has come. -/
structure Ga (l : List Pp) (left : Int → Bool) (a : List Pp) : Prop where
  m : ∀ p, p ∈ a ↔ p ∈ l ∧ left p.v = false
  nd : a.Pairwise (fun p q => p.v ≠ q.v)
theorem Ga.nodup {l a : List Pp} {left : Int → Bool} (h : Ga l left a) : a.Nodup := h.nd.imp fun hne e => hne (by rw [e])
theorem Ga.len {l a : List Pp} {left : Int → Bool} (h : Ga l left a) : a.length ≤ l.length := by
  classical
  have key : ∀ {x m : List Pp}, x.Nodup → (∀ p ∈ x, p ∈ m) → x.length ≤ m.length := by
    intro x
    induction x with
    | nil => intro m _ _; exact Nat.zero_le _
    | cons p r ih =>
      intro m h hm
      rw [List.nodup_cons] at h
      have hp := hm p (List.mem_cons_self ..)
      have := ih (m := m.erase p) h.2 (fun x hx => (List.mem_erase_of_ne (by rintro rfl; exact h.1 hx)).2 (hm x (List.mem_cons_of_mem _ hx)))
      rw [List.length_erase_of_mem hp] at this
      have := List.length_pos_of_mem hp
      simp only [List.length_cons]
      omega
  exact key h.nodup (fun p hp => ((h.m p).1 hp).1)
theorem Ga.start (l : List Pp) : Ga l (fun k => (dblP l).any fun x => x.1 == k) [] :=
  ⟨fun p => ⟨fun h => (by cases h), fun ⟨h1, h2⟩ => by
    have : ((dblP l).any fun x => x.1 == p.v) = true := List.any_eq_true.2 ⟨(p.v, p), mem_dbl.2 ⟨h1, has_v p⟩, by simp⟩
    simp only [this] at h2
    cases h2⟩, List.Pairwise.nil⟩
theorem Ga.take {t : Tp} (hg : Gp t) {left : Int → Bool} {a : List Pp} (h : Ga t.l left a) {p : Pp} (hp : p ∈ t.l) (hl : left p.v = true) : Ga t.l (fun j => left j && !(j == p.v)) (a ++ [p]) := by
  refine ⟨fun q => ?_, List.pairwise_append.2 ⟨h.nd, List.pairwise_singleton _ _, fun q hq r hr e => ?_⟩⟩
  · rw [List.mem_append, h.m q, List.mem_singleton]
    constructor
    · rintro (⟨h1, h2⟩ | rfl)
      · exact ⟨h1, by rw [h2]; rfl⟩
      · exact ⟨hp, by simp⟩
    · rintro ⟨h1, h2⟩
      cases hh : left q.v with
      | false => exact .inl ⟨h1, rfl⟩
      | true =>
        rw [hh] at h2
        have e : q.v = p.v := by simpa using h2
        exact .inr (one_pair hg.nd h1 hp (has_v q) (by rw [e]; exact has_v p))
  · rw [List.mem_singleton.1 hr] at e
    have := ((h.m q).1 hq).2
    rw [e, hl] at this
    cases this
theorem Ga.skip {t : Tp} (hg : Gp t) {left : Int → Bool} {a : List Pp} (h : Ga t.l left a) {p : Pp} {k : Int} (hp : p ∈ t.l) (hk : p.has k = true) (hne : p.v ≠ k) : Ga t.l (fun j => left j && !(j == k)) a := by
  refine ⟨fun q => ?_, h.nd⟩
  rw [h.m q]
  constructor
  · rintro ⟨h1, h2⟩
    exact ⟨h1, by rw [h2]; rfl⟩
  · rintro ⟨h1, h2⟩
    refine ⟨h1, ?_⟩
    cases hh : left q.v with
    | false => rfl
    | true =>
      rw [hh] at h2
      have e : q.v = k := by simpa using h2
      have := one_pair hg.nd h1 hp (id := k) (by rw [← e]; exact has_v q) hk
      rw [this] at e
      exact absurd e hne
theorem Ga.done {t : Tp} (hg : Gp t) {left : Int → Bool} {a : List Pp} (h : Ga t.l left a) (hl : ∀ k, left k = false) : a.Perm t.l :=
  (List.perm_ext_iff_of_nodup h.nodup (hg.up.imp fun {x y} hxy e => by rw [e] at hxy; omega)).2 fun p => by rw [h.m p]; exact ⟨fun h1 => h1.1, fun h1 => ⟨h1, hl _⟩⟩
theorem Ow.weakB {β : Type} {e : TypeId} {k : Nat} {f : β → Array Value} {u : World} {B B' : Nat} {A : Option Addr} {c : Nat} {l : List β} (h : Ow e k f u B A c l) (hB : B' ≤ B) : Ow e k f u B' A c l := by
  refine ⟨h.1, ?_⟩
  rcases h.2 with hn | ⟨g, cap, cur, hv, hg, r⟩
  · exact .inl hn
  · exact .inr ⟨g, cap, cur, hv, Nat.le_trans hB hg, r⟩
theorem Rn.itlt {α : Type} {R : Value → Option (DataW Unit × List MemPlace)} {en : α → DataW Unit} {u : World} {l : List (Int × α)} {b r cnt : Nat} {left : Int → Bool} (h : Rn R en u b r l left cnt) : r < u.heap.size := by
  obtain ⟨D, n, lf, h1, _⟩ := h
  exact h1.lt
section
variable {W u u' : World} {H H' : List Nat} {tb : Nat} {t : Tp}
set_option maxRecDepth 100000 in
set_option maxHeartbeats 8000000 in
theorem z_all (h : Zp W u H tb t) (hg : Gp t) (hf : t.l.length ≤ 1000 ∧ t.ev.length ≤ 2000) (n : Nat) (hn : t.l.length = n) :
    Calls Try.prog 21 #[.pointer (some ⟨tb, 0, none⟩)] u fun e u' => ∃ A c, e = .returned (.slice A n c) ∧ Ow 43 2 ppc u' u.heap.size A c t.l ∧ Below u.heap.size u u' := by
  obtain ⟨mp, me, h1, h2, h3, h4, h5, h6⟩ := h.ex
  have c0 : u.cell? ⟨tb, 0, none⟩ = some (.map (some mp)) := h1.cell 0
  obtain ⟨u1, hrun, hr, hk⟩ := h2.range kinP
  have HR := Lib.hid hr
  have HK := Lib.hid hk
  have HG := Lib.hid hg
  have HF := Lib.hid hf.1
  have HN := Lib.hid hn
  have hmp : mp < u.heap.size := h2.lt
  clear h hg hf hn h1 h2 h3 h4 h5 h6 hr hk
  go_enter Try.func21, Try.ntmps21
  go_wp2
  go_loopw [3] (fun v3 wr => ∃ (left : Int → Bool) (cnt m : Nat) (A : Option Addr) (c : Nat) (a : List Pp), v3 = .slice A m c ∧ Hid (a.length = m) ∧ Hid (Ow 43 2 ppc wr (u.heap.size + 1) A c a) ∧ Hid (Ga t.l left a) ∧ Hid (Rn pRP pen wr mp u.heap.size (dblP t.l) left cnt) ∧ Hid (Below u.heap.size u wr)) (fun _ wr => wr.rangeLeft mp u.heap.size)
  case atStart => exact ⟨_, _, 0, none, 0, [], by first | rfl | simp, Lib.hid rfl, Lib.hid (Ow.nil _ _), Lib.hid (Ga.start _), HR, Lib.hid (HK.out.below (Nat.le_refl _) (by simp))⟩
  case round =>
    obtain ⟨left, cnt, m, A, c, a, rfl, HM, HO, HA, HR2, HB⟩ := hrel
    have HLE := Lib.hid (show m ≤ 1000 by have h1 := HA.out.len; have h2 := HF.out; have h3 := HM.out; omega)
    go_wp2_with (at_next; refine wpList_next_n HR2.out kinP rfl _ rfl rfl ?_ ?_)
    · intro HL
      have HP := Lib.hid (HA.out.done HG.out HL.out)
      have HMN := Lib.hid (show m = n by rw [← HM.out, HP.out.length_eq, HN.out])
      rcases HO.out.2 with ⟨e0, e1⟩ | ⟨g, cap, cur, e0, -⟩
      · injection e0 with e2 e3 e4
        subst e2; subst e4
        rw [HM.out] at e1
        subst e1
        have HT := Lib.hid (show t.l = [] from List.length_eq_zero_iff.1 (by rw [HN.out, ← HMN.out]))
        clear e3
        go_wp2_with (go_at_call 24; (with_reducible refine (psort_none _ _ _ _).mono ?_); rintro e w2 ⟨rfl, hw⟩; rw [hw]; clear hw)
        go_ret
        have hb := HB.out
        have ht := HT.out
        have hm := HMN.out
        refine ⟨none, 0, by rw [← hm]; rfl, by rw [ht]; exact Ow.nil _ _, hb⟩
      · injection e0 with e2 e3 e4
        subst e2
        have HS := Lib.hid (psort_ok wr (u.heap.size + 1) g c m a t.l HO.out HM.out (by have := HLE.out; omega) HP.out HG.out.up)
        have HGB := Lib.hid (show u.heap.size ≤ g from by have := (Ow.block HO.out m g rfl).1; omega)
        clear e3 e4
        go_wp2_with (go_at_call 24; (with_reducible refine HS.out.mono ?_); rintro e w2 ⟨rfl, j1, j2⟩; have HO2 := Lib.hid j1; have HK2 := Lib.hid j2; clear j1 j2)
        go_ret
        refine ⟨some ⟨g, 0, none⟩, c, by rw [← HMN.out]; rfl, HO2.out.weakB (by omega), HB.out.trans (HK2.out.below HB.out.size (fun x hx => by rw [List.mem_singleton.1 hx]; exact HGB.out))⟩
    · intro k p w1 cnt1 HX hen
      obtain ⟨pv, pc⟩ := p
      simp only [pmk] at hen ⊢
      obtain ⟨⟨hx, hl⟩, hr1, hlt, hk1, hsz⟩ := HX.out
      obtain ⟨hp, hh⟩ := mem_dbl.1 hx
      have HK1 := Lib.hid hk1
      have HR3 := Lib.hid hr1
      have HLT := Lib.hid hlt
      have HB1 := Lib.hid (show Below u.heap.size u w1 from HB.out.trans (hk1.below HB.out.size (by simp)))
      have hgr : ∀ g, (Value.slice A m c).ownBlock = some g → g ∉ [u.heap.size] := fun g hg => by
        have := (Ow.block HO.out m g hg).1
        simp; omega
      have HO1 := Lib.hid (show Ow 43 2 ppc w1 (u.heap.size + 1) A c a from HO.out.keR hk1 (fun g hg => hgr g (by rw [HM.out] at hg; exact hg)))
      have HS1 := Lib.hid (show u.heap.size + 1 ≤ w1.heap.size from by have := hr1.itlt; omega)
      by_cases hq : k = pv
      · subst hq
        have HA2 := Lib.hid (HA.out.take HG.out hp hl)
        have HN1 := Lib.hid (Bk.new w1 43 #[.int .i64 k, .int .i64 pc])
        obtain ⟨w2, hw2⟩ : ∃ w2, w1.alloc (.cells #[.int .i64 k, .int .i64 pc] 43) = w2 := ⟨_, rfl⟩
        have HK2 := Lib.hid (show Ke [] w1 w2 from by rw [← hw2]; exact (Ke.refl [] w1).alloc _)
        have b0 : w2.cell? ⟨w1.heap.size, 0, none⟩ = some (.int .i64 k) := by rw [← hw2]; exact HN1.out.cell 0
        have b1 : w2.cell? ⟨w1.heap.size, 1, none⟩ = some (.int .i64 pc) := by rw [← hw2]; exact HN1.out.cell 1
        have HK3 := Lib.hid (show Ke [] w1 (w2.alloc (.cells #[.int .i64 k, .int .i64 pc] 43)) from HK2.out.alloc _)
        have HOA := Lib.hid (show Ow 43 2 ppc (w2.alloc (.cells #[.int .i64 k, .int .i64 pc] 43)) (u.heap.size + 1) A c a from HO1.out.keR HK3.out (fun _ _ hx => by cases hx))
        have HRX := Lib.hid (Rw.bk (f := ppc) (k := 2) (x := (⟨k, pc⟩ : Pp)) (Bk.new w2 43 #[.int .i64 k, .int .i64 pc]))
        have HSA := Lib.hid (show u.heap.size + 1 ≤ (w2.alloc (.cells #[.int .i64 k, .int .i64 pc] 43)).heap.size from Nat.le_trans HS1.out HK3.out.size)
        have hmm : m ≤ 1000 := HLE.out
        clear hx hl hr1 hlt hk1 hsz hp hh HX hgr
        go_upto_region 5 with fail
        try rw [hw2]
        go_wp2_with (at_builtin; refine wp_rows_at roPP rfl (.tmp 20) (.tmp 22) rfl m rfl HM.out HOA.out ⟨k, pc⟩ w2.heap.size 1 rfl HRX.out (by omega) HSA.out (m + 1) rfl ?_; intro g9 c9 w9 ho hg hb hat; have HY := Lib.hid (And.intro ho (And.intro hg hb)); clear ho hg hb hat)
        have HK9 := Lib.hid (show Ke (Value.slice A m c).ownBlock.toList w1 w9 from (HK3.out.more (by simp)).trans (ke_row HY.out.2.1))
        have hgo : ∀ y ∈ (Value.slice A m c).ownBlock.toList, u.heap.size + 1 ≤ y := fun y hy => (Ow.block HO.out m y (Option.mem_toList.1 hy)).1
        go_roundw
        case rel => exact ⟨_, cnt1, m + 1, some ⟨g9, 0, none⟩, c9, a ++ [⟨k, pc⟩], by first | rfl | go_num, Lib.hid (by rw [List.length_append, HM.out]; rfl), Lib.hid HY.out.1, HA2, Lib.hid (HR3.out.ke HK9.out (fun hy => by have := hgo _ hy; omega) (fun hy => by have := hgo _ hy; omega)), Lib.hid (HB1.out.trans (HK9.out.below HB1.out.size (fun y hy => by have := hgo y hy; omega)))⟩
        case measure =>
          rw [(HR3.out.ke HK9.out (fun hy => by have := hgo _ hy; omega) (fun hy => by have := hgo _ hy; omega)).left_eq, HR2.out.left_eq]
          exact HLT.out
      · have hq2 : (k == pv) = false := by simp [hq]
        have HA2 := Lib.hid (HA.out.skip HG.out hp hh (fun e => hq e.symm))
        have HN1 := Lib.hid (Bk.new w1 43 #[.int .i64 pv, .int .i64 pc])
        obtain ⟨w2, hw2⟩ : ∃ w2, w1.alloc (.cells #[.int .i64 pv, .int .i64 pc] 43) = w2 := ⟨_, rfl⟩
        have HK2 := Lib.hid (show Ke [] w1 w2 from by rw [← hw2]; exact (Ke.refl [] w1).alloc _)
        have b0 : w2.cell? ⟨w1.heap.size, 0, none⟩ = some (.int .i64 pv) := by rw [← hw2]; exact HN1.out.cell 0
        clear hx hl hr1 hlt hk1 hsz hp hh HX hgr hq
        go_upto_region 5 with fail
        try rw [hw2]
        go_wp2_with fail
        go_roundw
        case rel => exact ⟨_, cnt1, m, A, c, a, by first | rfl | go_num, HM, Lib.hid (HO1.out.keR HK2.out (fun _ _ hx => by cases hx)), HA2, Lib.hid (HR3.out.ke HK2.out (by simp) (by simp)), Lib.hid (HB1.out.trans (HK2.out.below HB1.out.size (by simp)))⟩
        case measure =>
          rw [(HR3.out.ke HK2.out (by simp) (by simp)).left_eq, HR2.out.left_eq]
          exact HLT.out
end
end Go.Proofs.Ytinjldjpncijjaa

/- The program's own table of pairs: all its contracts. -/

/- Rows of the law's own, beside what the program owns; what turns beside it. Nothing of the program is named here. -/
namespace Go.Proofs.Ytinjldjpncijjaa
set_option linter.unusedVariables false
set_option maxRecDepth 100000
set_option linter.unusedSimpArgs false
open Go.RowKit

theorem bk_apart {w : World} {g g' : Nat} {e e' : TypeId} {cs cs' : Array Value} (h : Bk w g e cs) (h' : Bk w g' e' cs') (hn : e ≠ e') : g ≠ g' := by
  intro x
  subst x
  have hh : w.heap[g]? = some (.cells cs e (0, 0)) := h
  have hh' : w.heap[g]? = some (.cells cs' e' (0, 0)) := h'
  rw [hh] at hh'
  injection hh' with hh'
  injection hh' with _ hh'
  exact hn hh'
/-- The slice at A owns the rows l: since the law began, and away from the book's blocks. -/
structure Lrk {β : Type} (e : TypeId) (k : Nat) (f : β → Array Value) (W u : World) (G : List Nat) (A : Option Addr) (c : Nat) (l : List β) : Prop where
  o : Ow e k f u W.heap.size A c l
  n : ∀ g, (Value.slice A l.length c).ownBlock = some g → g ∉ G
section
variable {β : Type} {e : TypeId} {k : Nat} {f : β → Array Value} {W u u' : World} {G G' : List Nat} {A : Option Addr} {c : Nat} {l : List β}
theorem Ow.keepR {B : Nat} (h : Ow e k f u B A c l) (hk : ∀ g cs, (Value.slice A l.length c).ownBlock = some g → Bk u g e cs → Bk u' g e cs) : Ow e k f u' B A c l := by
  refine ⟨h.1, ?_⟩
  rcases h.2 with hn | ⟨g, cap, cur, hv, hg, hh, r⟩
  · exact .inl hn
  · exact .inr ⟨g, cap, cur, hv, hg, hk g cur (by rw [hv]; rfl) hh, r⟩
theorem Lrk.nil (W u : World) (G : List Nat) : Lrk e k f W u G none 0 [] := ⟨Ow.nil _ _, fun g h => by cases h⟩
theorem Lrk.lt (h : Lrk e k f W u G A c l) {g : Nat} (hg : (Value.slice A l.length c).ownBlock = some g) : W.heap.size ≤ g ∧ g < u.heap.size := by
  obtain ⟨h1, h2, _⟩ := Ow.block h.o l.length g hg
  exact ⟨h1, h2⟩
theorem Lrk.step (h : Lrk e k f W u G A c l) (s : Sp u u' G G') : Lrk e k f W u' G' A c l :=
  ⟨h.o.keepR fun g cs hg hh => hh.ke s.k (h.n g hg), fun g hg hx => by
    rcases s.g g hx with e | e
    · exact h.n g hg e
    · have := (h.lt hg).2; omega⟩
theorem Lrk.on (h : Lrk e k f W u G A c l) (hb : Below u.heap.size u u') : Lrk e k f W u' G A c l := h.step (Sp.of (Ke.of hb).nil)
theorem Lrk.of {B : Nat} (h : Ow e k f u B A c l) (hB : W.heap.size ≤ B) (hG : ∀ y ∈ G, y < B) : Lrk e k f W u G A c l :=
  ⟨⟨h.1, by
    rcases h.2 with hn | ⟨g, cap, cur, hv, hg, r⟩
    · exact .inl hn
    · exact .inr ⟨g, cap, cur, hv, Nat.le_trans hB hg, r⟩⟩, fun g hg hx => by
    have h1 := (Ow.block h l.length g hg).1
    have := hG g hx
    omega⟩
/-- What turned are blocks of the type e, away from the book. -/
def Tu (e : TypeId) (W : World) (G : List Nat) (u u' : World) : Prop := ∃ K : List Nat, Ke K u u' ∧ ∀ y ∈ K, y ∉ G ∧ W.heap.size ≤ y ∧ ∃ cs, Bk u y e cs
theorem Tu.sp (t : Tu e W G u u') : ∀ {G0 : List Nat}, (∀ y ∈ G0, y ∈ G) → ∃ K, Ke K u u' ∧ ∀ y ∈ G0, y ∉ K := fun hG => by
  obtain ⟨K, k1, k2⟩ := t
  exact ⟨K, k1, fun y hy hx => (k2 y hx).1 (hG y hy)⟩
theorem Tu.bk (t : Tu e W G u u') {g : Nat} {t2 : TypeId} {cs : Array Value} (h : Bk u g t2 cs) (hne : t2 ≠ e) : Bk u' g t2 cs := by
  obtain ⟨K, k1, k2⟩ := t
  refine h.ke k1 fun hx => ?_
  obtain ⟨_, _, cs2, hc⟩ := k2 g hx
  exact bk_apart h hc hne rfl
theorem Tu.bz (t : Tu e W G u u') {g : Nat} {t2 : TypeId} {cs : Array Value} (h : Bz u G g t2 cs) (hne : t2 ≠ e) : Bz u' G g t2 cs := ⟨t.bk h.b hne, h.n⟩
theorem Tu.lr {γ : Type} {e2 : TypeId} {k2 : Nat} {f2 : γ → Array Value} {A2 : Option Addr} {c2 : Nat} {l2 : List γ} (t : Tu e W G u u') (h : Lrk e2 k2 f2 W u G A2 c2 l2) (hne : e2 ≠ e) : Lrk e2 k2 f2 W u' G A2 c2 l2 :=
  ⟨h.o.keepR fun g cs _ hh => t.bk hh hne, h.n⟩
theorem Tu.below (t : Tu e W G u u') (hb : Below W.heap.size W u) : Below W.heap.size W u' := by
  obtain ⟨K, k1, k2⟩ := t
  exact hb.trans (k1.below hb.size (fun x hx => (k2 x hx).2.1))
/-- Some are appended. -/
theorem Lrk.app {y : List β} (h : Lrk e k f W u G A c l) (hG : ∀ y ∈ G, y < u.heap.size) {n : Nat} (hn : l.length = n) {t : TypeId} {cs : Array Value} {g c2 : Nat} {w' : World}
    (h1 : Ow e k f w' W.heap.size (some ⟨g, 0, none⟩) c2 (l ++ y)) (h2 : (u.alloc (.cells cs t)).grownBy w' (Value.slice A n c).ownBlock) (h3 : (Value.slice A n c).ownBlock = some g ∨ g = (u.alloc (.cells cs t)).heap.size) :
    Lrk e k f W w' G (some ⟨g, 0, none⟩) c2 (l ++ y) ∧ Tu e W G u w' := by
  subst hn
  have hk0 : Ke [] u (u.alloc (.cells cs t)) := (Ke.refl _ _).alloc _
  refine ⟨⟨h1, fun g2 hg2 => ?_⟩, ?_⟩
  · simp [Value.ownBlock] at hg2
    subst hg2
    rcases h3 with e | e
    · exact h.n g e
    · rw [World.size_alloc] at e
      exact fun hx => by have := hG g hx; omega
  · cases ho : (Value.slice A l.length c).ownBlock with
    | none =>
      rw [ho] at h2
      exact ⟨[], hk0.trans (Ke.grown0 h2), fun y hy => by cases hy⟩
    | some g0 =>
      rw [ho] at h2
      refine ⟨[g0], (hk0.nil).trans (Ke.grown h2), fun y hy => ?_⟩
      rw [List.mem_singleton.1 hy]
      obtain ⟨h4, _, cs0, hb0⟩ := Ow.block h.o l.length g0 ho
      exact ⟨h.n g0 ho, h4, cs0, hb0⟩
theorem Lrk.rw_ (hf : ∀ x, (f x).size = k) (h : Lrk e k f W u G A c l) : Rw k f u A l := Ow.rw_ hf h.o
end
end Go.Proofs.Ytinjldjpncijjaa
