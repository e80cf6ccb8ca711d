/- The document's own table of pairs: its memory; New, Was, Other: their contracts. (Begun in round 15, in a seat of the document's own table alone.) -/
import Derived.Test.YtinjldjpncijjaaG1
import Derived.Test.YtinjldjpncijjaaG2
import Derived.Test.YtinjldjpncijjaaG4
import Derived.BigQuiet
namespace Go.Proofs.Ytinjldjpncijjaa
set_option linter.unusedVariables false
set_option maxRecDepth 100000
set_option linter.unusedSimpArgs false
open Go.RowKit

abbrev ppc (p : Pp) : Array Value := #[.int .i64 p.v, .int .i64 p.c]
abbrev piv (x : Int) : Array Value := #[.int .i64 x]
theorem roPP : Ro Try.prog 36 43 2 16 ppc := ⟨Try.underlying36, (by
  obtain ⟨i, h1, h2, h3, h4⟩ := info_parts (show (Try.prog.info? 43).map (fun i => (i.zero, i.size, i.bytes)) = some (some (.agg #[.int .i64 0, .int .i64 0]), 2, 16) by kernel_rfl)
  exact ⟨i, _, h1, h2, h3, h4, rfl⟩), by omega, fun _ => rfl, (fun x u hu => by simp at hu; rcases hu with rfl | rfl <;> rfl), by omega⟩
theorem roPI : Ro Try.prog 38 3 1 8 piv := ⟨Try.underlying38, (by
  obtain ⟨i, h1, h2, h3, h4⟩ := info_parts (show (Try.prog.info? 3).map (fun i => (i.zero, i.size, i.bytes)) = some (some (.int .i64 0), 1, 8) by kernel_rfl)
  exact ⟨i, _, h1, h2, h3, h4, rfl⟩), by omega, fun _ => rfl, (fun x u hu => by simp at hu; subst hu; rfl), by omega⟩
/-- At rb lies the document's table, in the blocks H. -/
structure Dr (W u : World) (H : List Nat) (rb : Nat) (t : Tp) : Prop where
  ex : ∃ A c E d, Bk u rb 40 #[.slice A t.l.length c, .slice E t.ev.length d] ∧ Ow 43 2 ppc u W.heap.size A c t.l ∧ Ow 3 1 piv u W.heap.size E d t.ev ∧ (∀ g, (Value.slice A t.l.length c).ownBlock = some g → g ∈ H) ∧ ∀ g, (Value.slice E t.ev.length d).ownBlock = some g → g ∈ H
  rb : rb ∈ H
  l : Below W.heap.size W u
  lo : ∀ y ∈ H, W.heap.size ≤ y
  hi : ∀ y ∈ H, y < u.heap.size
section
variable {W u u' : World} {H H' : List Nat} {rb : Nat} {t t' : Tp}
theorem Ow.keR {β : Type} {e : TypeId} {k : Nat} {f : β → Array Value} {B : Nat} {A : Option Addr} {c : Nat} {l : List β} {L : List Nat} (h : Ow e k f u B A c l) (ke : Ke L u u') (hn : ∀ g, (Value.slice A l.length c).ownBlock = some g → g ∉ L) : Ow e k f u' B A c l := by
  refine ⟨h.1, ?_⟩
  rcases h.2 with h0 | ⟨g, cap, cur, hv, hg, hh, r⟩
  · exact .inl h0
  · exact .inr ⟨g, cap, cur, hv, hg, (show Bk u g _ _ from hh).ke ke (hn g (by rw [hv]; rfl)), r⟩
theorem Dr.ke {L : List Nat} (h : Dr W u H rb t) (k : Ke L u u') (hL : ∀ y ∈ H, y ∉ L) (hb : Below W.heap.size W u') : Dr W u' H rb t := by
  obtain ⟨A, c, E, d, h1, h2, h3, h4, h5⟩ := h.ex
  exact ⟨⟨A, c, E, d, h1.ke k (hL _ h.rb), h2.keR k (fun g hg => hL g (h4 g hg)), h3.keR k (fun g hg => hL g (h5 g hg)), h4, h5⟩, h.rb, hb, h.lo, fun y hy => Nat.lt_of_lt_of_le (h.hi y hy) k.size⟩
theorem Dr.on (h : Dr W u H rb t) (hb : Below u.heap.size u u') : Dr W u' H rb t := h.ke (Ke.of hb) (fun _ _ hx => by cases hx) (h.l.trans (hb.mono h.l.size))
theorem rowPP {w : World} {A : Option Addr} {l : List Pp} (h : Rw 2 ppc w A l) (i : Nat) (hi : i < l.length) :
    ∃ b o x, A = some ⟨b, o, none⟩ ∧ l[i]? = some x ∧ ∀ u, Below w.heap.size w u → u.cell? ⟨b, o + i * 2, none⟩ = some (.int .i64 x.v) ∧ u.cell? ⟨b, o + i * 2 + 1, none⟩ = some (.int .i64 x.c) := by
  obtain ⟨b, o, x, h1, h2, h3⟩ := Rw.at_ h i hi
  exact ⟨b, o, x, h1, h2, fun u hb => ⟨h3 u hb 0 (by omega), h3 u hb 1 (by omega)⟩⟩
theorem rowPI {w : World} {A : Option Addr} {l : List Int} (h : Rw 1 piv w A l) (i : Nat) (hi : i < l.length) :
    ∃ b o x, A = some ⟨b, o, none⟩ ∧ l[i]? = some x ∧ ∀ u, Below w.heap.size w u → u.cell? ⟨b, o + i, none⟩ = some (.int .i64 x) := by
  obtain ⟨b, o, x, h1, h2, h3⟩ := Rw.at_ h i hi
  exact ⟨b, o, x, h1, h2, fun u hb => by have := h3 u hb 0 (by omega); simpa using this⟩
set_option maxRecDepth 100000 in
set_option maxHeartbeats 1000000 in
theorem pr_new (h : Below W.heap.size W u) : Calls Try.prog 11 #[] u fun e u' => ∃ H rb, e = .returned (.pointer (some ⟨rb, 0, none⟩)) ∧ Dr W u' H rb ⟨[], []⟩ ∧ Below u.heap.size u u' ∧ ∀ y ∈ H, u.heap.size ≤ y := by
  have HB := Lib.hid h
  have hs := h.size
  go_enter Try.func11, Try.ntmps11
  go_wp2
  go_ret
  have hb := (Below.refl u.heap.size u).alloc (Nat.le_refl _) (.cells #[.slice none 0 0, .slice none 0 0] 40)
  exact ⟨[u.heap.size], u.heap.size, rfl, ⟨⟨none, 0, none, 0, Bk.new _ _ _, Ow.nil _ _, Ow.nil _ _, (fun g hg => by cases hg), fun g hg => by cases hg⟩, by simp, HB.out.trans (hb.mono hs), (fun y hy => by rw [List.mem_singleton.1 hy]; exact hs), (fun y hy => by rw [List.mem_singleton.1 hy, World.size_alloc]; omega)⟩, hb, fun y hy => by rw [List.mem_singleton.1 hy]; exact Nat.le_refl _⟩
set_option maxRecDepth 100000 in
set_option maxHeartbeats 2000000 in
theorem pr_was (h : Dr W u H rb t) (hf : t.ev.length ≤ 1000000) (id : Int) (R : Bool) (hR : decide (id ∈ t.ev) = R) :
    Calls Try.prog 19 #[.pointer (some ⟨rb, 0, none⟩), .int .i64 id] u fun e u' => e = .returned (.bool R) ∧ u' = u := by
  obtain ⟨A, c, E, d, h1, _, h3, _⟩ := h.ex
  obtain ⟨n, hn⟩ : ∃ n, t.ev.length = n := ⟨_, rfl⟩
  have HR := Lib.hid (Ow.rw_ (f := piv) (k := 1) (fun _ => rfl) h3)
  have HN := Lib.hid hn
  have HE := Lib.hid hR
  rw [hn] at h1 hf
  have c1 : u.cell? ⟨rb, 1, none⟩ = some (.slice E n d) := h1.cell 1
  clear h h1 h3 hn hR
  go_enter Try.func19, Try.ntmps19
  go_wp2
  go_loopw [5] (fun v5 wr => ∃ i : Nat, i ≤ n ∧ v5 = .int .i64 (i : Int) ∧ Hid (id ∉ t.ev.take i) ∧ wr = u) (fun v5 _ => n - (intOf v5).toNat)
  case atStart => exact ⟨0, by omega, rfl, Lib.hid (by simp), by first | rfl | trivial⟩
  case round =>
    obtain ⟨i, hi, rfl, H0, hwr⟩ := hrel
    subst hwr
    by_cases hi1 : i < n
    · have hi2 : (i : Int) < (n : Int) := by omega
      obtain ⟨b, o, x, rfl, hx, hc⟩ := rowPI HR.out i (by rw [HN.out]; exact hi1)
      have x0 := hc wr (Below.refl _ _)
      have HX := Lib.hid hx
      obtain ⟨q, hq⟩ : ∃ q, (x == id) = q := ⟨_, rfl⟩
      have HQ := Lib.hid hq
      clear hc hx
      cases q with
      | true =>
        have HP := Lib.hid (show R = true from by
          rw [← HE.out, decide_eq_true_iff]
          have : x = id := by simpa using HQ.out
          rw [← this]
          exact List.mem_of_getElem? HX.out)
        go_wp2
        go_ret
        exact ⟨by rw [HP.out]; rfl, by first | rfl | trivial⟩
      | false =>
        go_wp2
        go_roundw
        case rel =>
          refine ⟨i + 1, by omega, by go_num, Lib.hid (fun hy => ?_), by first | rfl | trivial⟩
          rw [List.take_add_one, HX.out, List.mem_append] at hy
          rcases hy with hy | hy
          · exact H0.out hy
          · simp at hy
            have := HQ.out
            rw [hy] at this
            simp at this
        case measure => simp [intOf] <;> omega
    · have hi2 : ¬ (i : Int) < (n : Int) := by omega
      have HP := Lib.hid (show R = false from by
        rw [← HE.out, decide_eq_false_iff_not]
        intro hm
        exact H0.out (by rw [List.take_of_length_le (by rw [HN.out]; omega)]; exact hm))
      go_wp2
      go_ret
      exact ⟨by rw [HP.out]; rfl, by first | rfl | trivial⟩
set_option maxRecDepth 100000 in
set_option maxHeartbeats 2000000 in
theorem pr_other (h : Dr W u H rb t) (hf : t.l.length ≤ 1000000) (id : Int) (x0 : Int) (b0 : Bool) (hR : othP t.l id = (x0, b0)) :
    Calls Try.prog 17 #[.pointer (some ⟨rb, 0, none⟩), .int .i64 id] u fun e u' => e = .returned (.tuple #[.int .i64 x0, .bool b0]) ∧ u' = u := by
  obtain ⟨A, c, E, d, h1, h2, _⟩ := h.ex
  obtain ⟨n, hn⟩ : ∃ n, t.l.length = n := ⟨_, rfl⟩
  have HR := Lib.hid (Ow.rw_ (f := ppc) (k := 2) (fun _ => rfl) h2)
  have HN := Lib.hid hn
  have HE := Lib.hid hR
  rw [hn] at h1 hf
  have c0 : u.cell? ⟨rb, 0, none⟩ = some (.slice A n c) := h1.cell 0
  clear h h1 h2 hn hR
  go_enter Try.func17, Try.ntmps17
  go_wp2
  go_loopw [6] (fun v6 wr => ∃ i : Nat, i ≤ n ∧ v6 = .int .i64 (i : Int) ∧ Hid (∀ p ∈ t.l.take i, p.has id = false) ∧ wr = u) (fun v6 _ => n - (intOf v6).toNat)
  case atStart => exact ⟨0, by omega, rfl, Lib.hid (fun p hp => by simp at hp), by first | rfl | trivial⟩
  case round =>
    obtain ⟨i, hi, rfl, H0, hwr⟩ := hrel
    subst hwr
    by_cases hi1 : i < n
    · have hi2 : (i : Int) < (n : Int) := by omega
      obtain ⟨b, o, x, rfl, hx, hc⟩ := rowPP HR.out i (by rw [HN.out]; exact hi1)
      obtain ⟨k0, k1⟩ := hc wr (Below.refl _ _)
      have HX := Lib.hid hx
      obtain ⟨xv, xc⟩ := x
      dsimp only at k0 k1
      obtain ⟨q, hq⟩ : ∃ q, (xv == id) = q := ⟨_, rfl⟩
      obtain ⟨r, hr⟩ : ∃ r, (xc == id) = r := ⟨_, rfl⟩
      have HQ := Lib.hid (And.intro hq hr)
      clear hc hx
      cases q with
      | true =>
        have HP := Lib.hid (show (x0, b0) = (xc, true) from by
          rw [← HE.out]
          unfold othP
          rw [find_atP HX.out H0.out (show Pp.has ⟨xv, xc⟩ id = true by unfold Pp.has; rw [HQ.out.1]; rfl)]
          dsimp only
          rw [if_pos (by simpa using HQ.out.1)])
        have e1 : x0 = xc := congrArg Prod.fst HP.out
        have e2 : b0 = true := congrArg Prod.snd HP.out
        subst e1; subst e2
        go_wp2
        go_ret2
        exact ⟨rfl, by first | rfl | trivial⟩
      | false =>
        cases r with
        | true =>
          have HP := Lib.hid (show (x0, b0) = (xv, true) from by
            rw [← HE.out]
            unfold othP
            rw [find_atP HX.out H0.out (show Pp.has ⟨xv, xc⟩ id = true by unfold Pp.has; rw [HQ.out.2]; simp)]
            dsimp only
            rw [if_neg (by simpa using HQ.out.1)])
          have e1 : x0 = xv := congrArg Prod.fst HP.out
          have e2 : b0 = true := congrArg Prod.snd HP.out
          subst e1; subst e2
          go_wp2
          go_ret2
          exact ⟨rfl, by first | rfl | trivial⟩
        | false =>
          go_wp2
          go_roundw
          case rel =>
            refine ⟨i + 1, by omega, by go_num, Lib.hid (fun p hy => ?_), by first | rfl | trivial⟩
            rw [List.take_add_one, HX.out, List.mem_append] at hy
            rcases hy with hy | hy
            · exact H0.out p hy
            · simp at hy
              rw [hy]
              unfold Pp.has
              rw [HQ.out.1, HQ.out.2]
              rfl
          case measure => simp [intOf] <;> omega
    · have hi2 : ¬ (i : Int) < (n : Int) := by omega
      have HP := Lib.hid (show (x0, b0) = (0, false) from by
        rw [← HE.out]
        unfold othP
        rw [List.find?_eq_none.2 (fun p hp => by rw [H0.out p (by rw [List.take_of_length_le (by rw [HN.out]; omega)]; exact hp)]; simp)])
      have e1 : x0 = 0 := congrArg Prod.fst HP.out
      have e2 : b0 = false := congrArg Prod.snd HP.out
      subst e1; subst e2
      go_wp2
      go_ret2
      exact ⟨rfl, by first | rfl | trivial⟩
end
end Go.Proofs.Ytinjldjpncijjaa
