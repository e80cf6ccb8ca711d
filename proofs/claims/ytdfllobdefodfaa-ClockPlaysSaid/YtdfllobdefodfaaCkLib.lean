/- Words for the walks of clock's laws: rows of numbers that are read; a clock of the law's own; Same, has. -/
import Derived.Test.YtdfllobdefodfaaCk9
import Derived.Test.YtdfllobdefodfaaOpen
namespace Go.Proofs.Ytdfllobdefodfaa
set_option linter.unusedVariables false
set_option linter.unusedSimpArgs false
open Go.RowKit

variable {W u : World} {c : Nat} {now : Int} {G : List Nat} {S : List Ky}

/-- The slice at A reads as the numbers l, and lies in none of the blocks of K. -/
def Ri (w : World) (K : List Nat) (A : Option Addr) (l : List Int) : Prop :=
  l = [] ∨ ∃ b o, A = some ⟨b, o, none⟩ ∧ b ∉ K ∧ b < w.heap.size ∧ ∀ i, (h : i < l.length) → w.cell? ⟨b, o + i, none⟩ = some (.int .i64 l[i])

/-- From u to u' only the blocks G have turned; G' are these, and new ones. -/
structure Sp (u u' : World) (G G' : List Nat) : Prop where
  k : Ke G u u'
  g : ∀ y ∈ G', y ∈ G ∨ u.heap.size ≤ y
theorem Sp.refl (u : World) (G : List Nat) : Sp u u G G := ⟨Ke.refl _ _, fun _ h => .inl h⟩
theorem Sp.of {u u' : World} {G : List Nat} (h : Ke G u u') : Sp u u' G G := ⟨h, fun _ h => .inl h⟩
theorem Sp.trans {u v w : World} {G G' G'' : List Nat} (h : Sp u v G G') (k : Sp v w G' G'') : Sp u w G G'' :=
  ⟨⟨k.k.os.trans h.k.os, k.k.tape.trans h.k.tape, k.k.output.trans h.k.output, Nat.le_trans h.k.size k.k.size, fun i hi hG => (k.k.block i (Nat.lt_of_lt_of_le hi h.k.size) (fun hx => by
      rcases h.g i hx with e | e
      · exact hG e
      · omega)).trans (h.k.block i hi hG)⟩,
    fun y hy => by
      rcases k.g y hy with e | e
      · exact h.g y e
      · exact .inr (Nat.le_trans h.k.size e)⟩
theorem Ri.step {w w' : World} {G G' : List Nat} {A : Option Addr} {l : List Int} (h : Ri w G A l) (s : Sp w w' G G') : Ri w' G' A l := by
  rcases h with h | ⟨b, o, e, hn, hb, hc⟩
  · exact .inl h
  · refine .inr ⟨b, o, e, fun hx => ?_, Nat.lt_of_lt_of_le hb s.k.size, fun i hi => (World.cell?_of_block (w := w) (a := ⟨b, o + i, none⟩) (s.k.block b hb hn)).trans (hc i hi)⟩
    rcases s.g b hx with h1 | h1
    · exact hn h1
    · omega
theorem Ri.at_ {w : World} {K : List Nat} {A : Option Addr} {l : List Int} (h : Ri w K A l) {i : Nat} (hi : i < l.length) : ∃ b o x, A = some ⟨b, o, none⟩ ∧ w.cell? ⟨b, o + i, none⟩ = some (.int .i64 x) ∧ l[i]? = some x := by
  rcases h with h | ⟨b, o, e, _, _, hc⟩
  · subst h; simp at hi
  · exact ⟨b, o, l[i], e, hc i hi, List.getElem?_eq_getElem hi⟩
theorem OI.ri {w : World} {B : Nat} {A : Option Addr} {c : Nat} {l : List Int} {K : List Nat} (h : OI w B A c l) (hK : ∀ x ∈ K, x < B) : Ri w K A l := by
  by_cases h0 : l = []
  · exact .inl h0
  · have hp : 0 < l.length := List.length_pos_iff.2 h0
    obtain ⟨g, cap, hv, hb, hl⟩ := World.ownsRow.form h hp
    injection hv with h1 _ _
    subst h1
    refine .inr ⟨g, 0, rfl, fun hx => by have := hK g hx; omega, hl, fun i hi => ?_⟩
    have := World.ownsRow.cellAt h i (by omega)
    rw [Nat.zero_add, this]
    simp [hi]
theorem OI.cap {w : World} {B : Nat} {A : Option Addr} {c : Nat} {l : List Int} (h : OI w B A c l) : l.length ≤ c ∧ c ≤ 9223372036854775807 ∧ (A = none → l.length = 0 ∧ c = 0) := by
  rcases h.2 with ⟨hv, h0⟩ | ⟨g, cap, cur, hv, _, _, hn, hm, _⟩
  · injection hv with h1 _ h3
    exact ⟨by omega, by omega, fun _ => ⟨h0, h3⟩⟩
  · injection hv with h1 _ h3
    unfold maxLen at hm
    exact ⟨by omega, by omega, fun e => by rw [e] at h1; cases h1⟩
/-- A row of constant numbers that was just laid. -/
theorem Ri.lit {w : World} {K : List Nat} (l : List Int) (cs : Array Value) (hcs : cs = (i64s l).toArray) (hK : ∀ y ∈ K, y < w.heap.size) : Ri (w.alloc (.cells cs 3)) K (some ⟨w.heap.size, 0, none⟩) l := by
  subst hcs
  refine .inr ⟨w.heap.size, 0, rfl, fun hx => by have := hK _ hx; omega, by rw [World.size_alloc]; omega, fun i hi => ?_⟩
  rw [(Bk.new w 3 _).cell, Nat.zero_add]
  simp [hi]

/-- A clock of the law's own. -/
structure Cw (W u : World) (G : List Nat) (c : Nat) (now : Int) (S : List Ky) : Prop where
  ck : Ck u G c now S
  b : Below W.heap.size W u
  lo : ∀ y ∈ G, W.heap.size ≤ y
theorem Cw.step {u' : World} {G' : List Nat} {now' : Int} {S' : List Ky} (h : Cw W u G c now S) (s : Sp u u' G G') (k : Ck u' G' c now' S') : Cw W u' G' c now' S' :=
  ⟨k, h.b.trans (s.k.below h.b.size h.lo), fun y hy => by
    rcases s.g y hy with e | e
    · exact h.lo y e
    · exact Nat.le_trans h.b.size e⟩
theorem Cw.ke {u' : World} (h : Cw W u G c now S) (k : Ke [] u u') : Cw W u' G c now S := h.step (Sp.of k.nil) (h.ck.ke k (by simp))
theorem Ke.sp {u u' : World} {G : List Nat} (k : Ke [] u u') : Sp u u' G G := Sp.of k.nil

theorem w_new (h : Below W.heap.size W u) : Calls Try.prog 10 #[] u fun e u' => ∃ G c, e = .returned (.pointer (some ⟨c, 0, none⟩)) ∧ Cw W u' G c 0 [] ∧ Ke [] u u' ∧ ∀ y ∈ G, u.heap.size ≤ y :=
  (new_ok u).mono fun e u' ⟨G, c, h1, h2, h3, h4⟩ => ⟨G, c, h1, ⟨h2, h.trans (h3.below h.size (by simp)), fun y hy => Nat.le_trans h.size (h4 y hy)⟩, h3, h4⟩
theorem w_now (h : Cw W u G c now S) : Calls Try.prog 21 #[.pointer (some ⟨c, 0, none⟩)] u fun e u' => e = .returned (.int .i64 now) ∧ u' = u := now_ok u h.ck
theorem w_many (h : Cw W u G c now S) (n : Nat) (hn : S.length = n) : Calls Try.prog 22 #[.pointer (some ⟨c, 0, none⟩)] u fun e u' => e = .returned (.int .i64 (n : Int)) ∧ u' = u := cmany_ok u h.ck n hn
theorem w_at (h : Cw W u G c now S) (k : Int) (hk : Wf k) (t : Int) (b : Bool) (ht : (atM k S).getD 0 = t) (hb : (atM k S).isSome = b) : Calls Try.prog 19 #[.pointer (some ⟨c, 0, none⟩), .int .i64 k] u fun e u' => e = .returned (.tuple #[.int .i64 t, .bool b]) ∧ u' = u := by
  subst ht; subst hb; exact at_ok u h.ck k hk
theorem w_drop (h : Cw W u G c now S) (k : Int) (hk : Wf k) (b : Bool) (hb : (atM k S).isSome = b) : Calls Try.prog 12 #[.pointer (some ⟨c, 0, none⟩), .int .i64 k] u fun e u' => e = .returned (.bool b) ∧ Cw W u' G c now (outM k S) ∧ Sp u u' G G :=
  (drop_ok u h.ck k hk).mono fun e u' ⟨h1, h2, h3⟩ => ⟨by rw [h1, hb], h.step (Sp.of h3) h2, Sp.of h3⟩
theorem w_set (h : Cw W u G c now S) (k : Int) (hk : Wf k) (t : Int) (E : Int) (S' : List Ky) (hE : setE now S k t = E) (hS : setS now S k t = S') : Calls Try.prog 17 #[.pointer (some ⟨c, 0, none⟩), .int .i64 k, .int .i64 t] u fun e u' => ∃ G', e = .returned (.int .i64 E) ∧ Cw W u' G' c now S' ∧ Sp u u' G G' := by
  subst hE; subst hS
  exact (set_ok u h.ck k hk t).mono fun e u' hp => by
    obtain ⟨G', k1, k2, k3⟩ := hp.ex
    exact ⟨G', hp.e, h.step ⟨k2, k3⟩ k1, ⟨k2, k3⟩⟩
/-- Tick, where it may pass. -/
theorem w_tick (h : Cw W u G c now S) (n : Int) (hn : Wf n) (h0 : 0 ≤ n) (h1 : n ≤ 1099511627776 - now) (nw : Int) (L : List Int) (S' : List Ky) (m : Nat) (hnw : now + n = nw) (hL : goM nw S = L) (hS : stayM nw S = S') (hm : L.length = m) :
    Calls Try.prog 14 #[.pointer (some ⟨c, 0, none⟩), .int .i64 n] u fun e u' => ∃ A cp, e = .returned (.tuple #[.slice A m cp, .int .i64 0]) ∧ Ri u' G A L ∧ m ≤ cp ∧ cp ≤ 9223372036854775807 ∧ (A = none → m = 0 ∧ cp = 0) ∧ Cw W u' G c nw S' ∧ Sp u u' G G := by
  subst hnw; subst hL; subst hS; subst hm
  exact (tick_ok u h.ck n hn).mono fun e u' hp => by
    obtain ⟨A, cp, k1, k2, k3⟩ := hp.fine (by omega)
    obtain ⟨q1, q2, q3⟩ := k2.cap
    exact ⟨A, cp, k1, k2.ri (fun x hx => h.ck.low x hx), q1, q2, q3, h.step (Sp.of hp.k) k3, Sp.of hp.k⟩
/-- Tick, where it may not. -/
theorem w_tick_bad (h : Cw W u G c now S) (n : Int) (hn : Wf n) (h0 : n < 0 ∨ 1099511627776 - now < n) :
    Calls Try.prog 14 #[.pointer (some ⟨c, 0, none⟩), .int .i64 n] u fun e u' => e = .returned (.tuple #[.slice none 0 0, .int .i64 1]) ∧ Cw W u' G c now S ∧ Sp u u' G G :=
  (tick_ok u h.ck n hn).mono fun e u' hp => by
    obtain ⟨k1, k2⟩ := hp.bad h0
    exact ⟨k1, h.step (Sp.of hp.k) k2, Sp.of hp.k⟩

set_option maxRecDepth 100000 in
set_option maxHeartbeats 4000000 in
theorem same_ok (A A' : Option Addr) (cp cp' : Nat) (L L' : List Int) (K K' : List Nat) (u : World) (n m : Nat) (hn : L.length = n) (hm : L'.length = m) (hR : Ri u K A L) (hR' : Ri u K' A' L') (hc : n ≤ 9223372036854775807) (hc' : m ≤ 9223372036854775807) :
    Calls Try.prog 16 #[.slice A n cp, .slice A' m cp'] u fun e u' => e = .returned (.bool (decide (L = L'))) ∧ Ke [] u u' := by
  by_cases hnm : n = m
  · subst hnm
    have HA := Lib.hid (And.intro hR hR')
    have HL := Lib.hid (And.intro hn hm)
    clear hR hR' hn hm
    go_enter Try.func16, Try.ntmps16
    go_wp2_with fail
    go_loopw [5] (fun v5 wr => ∃ i : Nat, i ≤ n ∧ v5 = .int .i64 (i : Int) ∧ Hid (Ke [] u wr ∧ ∀ j, j < i → L[j]? = L'[j]?)) (fun v5 _ => n - (intOf v5).toNat)
    case atStart => exact ⟨0, by omega, rfl, Lib.hid ⟨Ke.refl _ _, fun j hj => by omega⟩⟩
    case round =>
      obtain ⟨i, hi, rfl, HR⟩ := hrel
      by_cases hin : i < n
      · have hi2 : (i : Int) < (n : Int) := by omega
        obtain ⟨b, o, x, rfl, c1, hx⟩ := (HA.out.1.step (G' := K) (Sp.of (HR.out.1.nil))).at_ (i := i) (by rw [HL.out.1]; exact hin)
        obtain ⟨b', o', y, rfl, c2, hy⟩ := (HA.out.2.step (G' := K') (Sp.of (HR.out.1.nil))).at_ (i := i) (by rw [HL.out.2]; exact hin)
        have HXY := Lib.hid (And.intro hx hy)
        clear hx hy
        by_cases hxy : x = y
        · subst hxy
          go_wp2_with fail
          go_quiet (fail)
          go_wp2_with fail
          go_roundw
          case rel => exact ⟨i + 1, by omega, by go_num, Lib.hid ⟨HR.out.1.drewN _, fun j hj => by
            by_cases e : j = i
            · subst e; rw [HXY.out.1, HXY.out.2]
            · exact HR.out.2 j (by omega)⟩⟩
          case measure => simp [intOf]; omega
        · have hbe : (x == y) = false := by simp [hxy]
          have HNE := Lib.hid (show decide (L = L') = false by
            simp only [decide_eq_false_iff_not]
            intro e
            have h1 := HXY.out.1
            rw [e, HXY.out.2] at h1
            injection h1 with h1
            exact hxy h1.symm)
          go_wp2_with fail
          go_quiet (fail)
          go_wp2_with fail
          go_ret
          exact ⟨by rw [HNE.out]; rfl, HR.out.1.drewN _⟩
      · have hi2 : ¬ (i : Int) < (n : Int) := by omega
        have hd : decide ((i : Int) < (n : Int)) = false := by simp; omega
        have HEQ := Lib.hid (show decide (L = L') = true by
          simp only [decide_eq_true_eq]
          apply List.ext_getElem?
          intro j
          by_cases hj : j < i
          · exact HR.out.2 j hj
          · rw [List.getElem?_eq_none (by rw [HL.out.1]; omega), List.getElem?_eq_none (by rw [HL.out.2]; omega)])
        go_wp2_with fail
        go_ret
        exact ⟨by rw [HEQ.out]; rfl, HR.out.1⟩
  · have HNE := Lib.hid (show decide (L = L') = false by
      simp only [decide_eq_false_iff_not]
      intro e
      rw [e] at hn
      omega)
    have h1 : ¬ (n : Int) = (m : Int) := by omega
    have hbe : ((n : Int) == (m : Int)) = false := by simp; omega
    clear hR hR' hn hm
    go_enter Try.func16, Try.ntmps16
    go_wp2_with fail
    go_ret
    exact ⟨by rw [HNE.out]; rfl, Ke.refl _ _⟩

set_option maxRecDepth 100000 in
set_option maxHeartbeats 4000000 in
theorem has_ok (A : Option Addr) (cp : Nat) (L : List Int) (K : List Nat) (u : World) (n : Nat) (x : Int) (hn : L.length = n) (hR : Ri u K A L) (hc : n ≤ 9223372036854775807) :
    Calls Try.prog 23 #[.slice A n cp, .int .i64 x] u fun e u' => e = .returned (.bool (decide (x ∈ L))) ∧ u' = u := by
  have HA := Lib.hid hR
  have HL := Lib.hid hn
  clear hR hn
  go_enter Try.func23, Try.ntmps23
  go_wp2_with fail
  go_loopw [5] (fun v5 wr => ∃ i : Nat, i ≤ n ∧ v5 = .int .i64 (i : Int) ∧ wr = u ∧ Hid (∀ j, j < i → ∀ y, L[j]? = some y → y ≠ x)) (fun v5 _ => n - (intOf v5).toNat)
  case atStart => exact ⟨0, by omega, rfl, rfl, Lib.hid (fun j hj => by omega)⟩
  case round =>
    obtain ⟨i, hi, rfl, rfl, HR⟩ := hrel
    by_cases hin : i < n
    · have hi2 : (i : Int) < (n : Int) := by omega
      obtain ⟨b, o, y, rfl, c1, hx⟩ := HA.out.at_ (i := i) (by rw [HL.out]; exact hin)
      have HXY := Lib.hid hx
      clear hx
      by_cases hxy : y = x
      · subst hxy
        have HIN := Lib.hid (show decide (y ∈ L) = true by simp only [decide_eq_true_eq]; exact List.mem_of_getElem? HXY.out)
        go_wp2_with fail
        go_ret
        exact ⟨by rw [HIN.out]; rfl, rfl⟩
      · have hbe : (y == x) = false := by simp [hxy]
        go_wp2_with fail
        go_roundw
        case rel => exact ⟨i + 1, by omega, by go_num, by trivial, Lib.hid (fun j hj z hz => by
          by_cases e : j = i
          · subst e
            rw [HXY.out] at hz
            injection hz with hz
            exact hz ▸ hxy
          · exact HR.out j (by omega) z hz)⟩
        case measure => simp [intOf]; omega
    · have hi2 : ¬ (i : Int) < (n : Int) := by omega
      have hd : decide ((i : Int) < (n : Int)) = false := by simp; omega
      have HEQ := Lib.hid (show decide (x ∈ L) = false by
        simp only [decide_eq_false_iff_not]
        intro hx
        obtain ⟨j, hj, e⟩ := List.mem_iff_getElem.1 hx
        exact HR.out j (by rw [HL.out] at hj; omega) x (by rw [List.getElem?_eq_getElem hj, e]) rfl)
      go_wp2_with fail
      go_ret
      exact ⟨by rw [HEQ.out]; rfl, rfl⟩
end Go.Proofs.Ytdfllobdefodfaa
