/- The document's own clock: New, At, Drop, Set. -/
import Derived.Test.YtdfllobdefodfaaCkR1
namespace Go.Proofs.Ytdfllobdefodfaa
set_option linter.unusedVariables false
set_option linter.unusedSimpArgs false
open Go.RowKit

abbrev rcl (A : Option Addr) (n cp : Nat) (now : Int) : Array Value := #[.slice A n cp, .int .i64 now]
/-- At s lies the document's clock; its row lies in none of the blocks K, nor does it. -/
structure Rk (u : World) (K : List Nat) (s : Nat) (now : Int) (S : List Ky) : Prop where
  ex : ∃ A cp, Bk u s 42 (rcl A S.length cp now) ∧ Ra u (s :: K) A S ∧ S.length ≤ cp ∧ cp ≤ 9223372036854775807 ∧ (A = none → S.length = 0 ∧ cp = 0)
  few : S.length ≤ 1024
  t0 : 0 ≤ now
  t1 : now ≤ 1099511627776
  low : ∀ y ∈ K, y < u.heap.size
  sK : s ∉ K

theorem Bk.cells2 {w : World} {b : Nat} {t : TypeId} {v0 v1 : Value} (h : Bk w b t #[v0, v1]) : w.cell? ⟨b, 0, none⟩ = some v0 ∧ w.cell? ⟨b, 1, none⟩ = some v1 :=
  ⟨by rw [h.cell]; rfl, by rw [h.cell]; rfl⟩
theorem Rk.lt {u : World} {K : List Nat} {s : Nat} {now : Int} {S : List Ky} (h : Rk u K s now S) : s < u.heap.size := by
  obtain ⟨A, cp, h1, _⟩ := h.ex
  exact h1.lt
/-- What the program's clock does leaves the document's as it was. -/
theorem Rk.step {u u' : World} {K K' : List Nat} {s : Nat} {now : Int} {S : List Ky} (h : Rk u K s now S) (p : Sp u u' K K') (low : ∀ y ∈ K', y < u'.heap.size) : Rk u' K' s now S := by
  have hlt := h.lt
  obtain ⟨⟨A, cp, h1, h2, h3, h4, h5⟩, h6, h7, h8, h9, h10⟩ := h
  have hs : s ∉ K' := fun hx => by
    rcases p.g s hx with e | e
    · exact h10 e
    · omega
  refine ⟨⟨A, cp, h1.ke p.k h10, ?_, h3, h4, h5⟩, h6, h7, h8, low, hs⟩
  rcases h2 with h | ⟨b, o, e, hn, hb, hc⟩
  · exact .inl h
  · simp only [List.mem_cons, not_or] at hn
    have hk := p.k.block b hb hn.2
    refine .inr ⟨b, o, e, ?_, Nat.lt_of_lt_of_le hb p.k.size, fun i hi => ⟨(World.cell?_of_block (w := u) (a := ⟨b, o + i * 2, none⟩) hk).trans (hc i hi).1, (World.cell?_of_block (w := u) (a := ⟨b, o + i * 2 + 1, none⟩) hk).trans (hc i hi).2⟩⟩
    simp only [List.mem_cons, not_or]
    exact ⟨hn.1, fun hx => by
      rcases p.g b hx with e | e
      · exact hn.2 e
      · omega⟩
theorem Rk.ke {u u' : World} {K : List Nat} {s : Nat} {now : Int} {S : List Ky} (h : Rk u K s now S) (k : Ke [] u u') : Rk u' K s now S := h.step (Sp.of k.nil) (fun y hy => Nat.lt_of_lt_of_le (h.low y hy) k.size)

theorem rnew_ok (u : World) (K : List Nat) (hK : ∀ y ∈ K, y < u.heap.size) : Calls Try.prog 11 #[] u fun e u' => ∃ s, e = .returned (.pointer (some ⟨s, 0, none⟩)) ∧ Rk u' K s 0 [] ∧ Ke [] u u' ∧ u.heap.size ≤ s := by
  have H := Lib.hid (show Rk (u.alloc (.cells (rcl none 0 0 0) 42)) K u.heap.size 0 [] from
    ⟨⟨none, 0, Bk.new _ _ _, .inl rfl, Nat.le_refl _, by omega, fun _ => ⟨rfl, rfl⟩⟩, by simp, by omega, by omega, fun y hy => by rw [World.size_alloc]; have := hK y hy; omega, fun hx => by have := hK _ hx; omega⟩)
  go_enter Try.func11, Try.ntmps11
  go_wp2_with fail
  go_ret
  exact ⟨_, rfl, H.out, (Ke.refl _ _).alloc _, Nat.le_refl _⟩

theorem at_first {k : Int} : ∀ {S : List Ky} {i : Nat} {y : Ky}, (∀ j, j < i → ∀ z, S[j]? = some z → z.1 ≠ k) → S[i]? = some y → y.1 = k → atM k S = some y.2
  | [], i, y, _, h, _ => by simp at h
  | z :: r, 0, y, _, h, hk => by
    simp at h
    subst h
    simp [atM, hk]
  | z :: r, i + 1, y, hn, h, hk => by
    have h0 := hn 0 (by omega) z rfl
    have hz : (z.1 == k) = false := by simpa using h0
    have := at_first (S := r) (i := i) (y := y) (fun j hj w hw => hn (j + 1) (by omega) w (by simpa using hw)) (by simpa using h) hk
    unfold atM at this ⊢
    rw [List.find?_cons, hz]
    exact this
theorem at_never {k : Int} {S : List Ky} (hn : ∀ j, j < S.length → ∀ z, S[j]? = some z → z.1 ≠ k) : atM k S = none := atM_none_iff.2 (fun y hy => by
  obtain ⟨j, hj, rfl⟩ := List.mem_iff_getElem.1 hy
  exact hn j hj _ (List.getElem?_eq_getElem hj))

set_option maxRecDepth 100000 in
set_option maxHeartbeats 4000000 in
theorem rat_ok (u : World) {K : List Nat} {s : Nat} {now : Int} {S : List Ky} (h : Rk u K s now S) (k t : Int) (b : Bool) (ht : (atM k S).getD 0 = t) (hb : (atM k S).isSome = b) :
    Calls Try.prog 20 #[.pointer (some ⟨s, 0, none⟩), .int .i64 k] u fun e u' => e = .returned (.tuple #[.int .i64 t, .bool b]) ∧ u' = u := by
  obtain ⟨⟨A, cp, h1, h2, h3, h4, h5⟩, h6, _⟩ := h
  obtain ⟨c0, c1⟩ := h1.cells2
  have HR := Lib.hid h2
  have HT := Lib.hid (And.intro ht hb)
  obtain ⟨n, hn⟩ : ∃ n, S.length = n := ⟨_, rfl⟩
  have HN := Lib.hid hn
  rw [hn] at c0 h6
  clear h1 h2 h3 h4 h5 ht hb hn
  go_enter Try.func20, Try.ntmps20
  go_wp2_with fail
  go_loopw [6] (fun v6 wr => ∃ i : Nat, i ≤ n ∧ v6 = .int .i64 (i : Int) ∧ wr = u ∧ Hid (∀ j, j < i → ∀ z, S[j]? = some z → z.1 ≠ k)) (fun v6 _ => n - (intOf v6).toNat)
  case atStart => exact ⟨0, by omega, rfl, rfl, Lib.hid (fun j hj => by omega)⟩
  case round =>
    obtain ⟨i, hi, rfl, rfl, HI⟩ := hrel
    by_cases hin : i < n
    · have hi2 : (i : Int) < (n : Int) := by omega
      obtain ⟨b', o, y, rfl, hy, d0, d1⟩ := HR.out.at_ (i := i) (by rw [HN.out]; exact hin)
      have HY := Lib.hid hy
      obtain ⟨y1, y2⟩ := y
      dsimp only at d0 d1
      clear hy
      by_cases hyk : y1 = k
      · have HE := Lib.hid (at_first HI.out HY.out hyk)
        have hb1 : (y1 == k) = true := by simp [hyk]
        go_wp2_with fail
        go_returns
        refine ⟨?_, rfl⟩
        rw [← HT.out.1, ← HT.out.2, HE.out]
        rfl
      · have hb1 : (y1 == k) = false := by simp [hyk]
        go_wp2_with fail
        go_roundw
        case rel => exact ⟨i + 1, by omega, by go_num, by trivial, Lib.hid (fun j hj z hz => by
          by_cases e : j = i
          · subst e
            rw [HY.out] at hz
            injection hz with hz
            subst hz
            exact hyk
          · exact HI.out j (by omega) z hz)⟩
        case measure => simp [intOf]; omega
    · have hi2 : ¬ (i : Int) < (n : Int) := by omega
      have hd : decide ((i : Int) < (n : Int)) = false := by simp only [decide_eq_false_iff_not]; omega
      have HE := Lib.hid (at_never (k := k) (S := S) (fun j hj => HI.out j (by have := HN.out; omega)))
      go_wp2_with fail
      go_returns
      refine ⟨?_, rfl⟩
      rw [← HT.out.1, ← HT.out.2, HE.out]
      rfl

/-- The row stored back. -/
theorem rk_store {u w : World} {K : List Nat} {s : Nat} {now now' : Int} {S S' : List Ky} (h : Rk u K s now S) {A : Option Addr} {cp n : Nat} (hs : Bk w s 42 (rcl A n cp now')) (h0 : 0 ≤ now') (h1 : now' ≤ 1099511627776) (hb : Below u.heap.size u w ∨ True) (hsz : u.heap.size ≤ w.heap.size)
    {A2 : Option Addr} {k c2 : Nat} (ho : OA w u.heap.size A2 c2 S') (hk : S'.length = k) (hf : S'.length ≤ 1024) :
    Rk (w.setCell ⟨s, 0, none⟩ (.slice A2 k c2)) K s now' S' := by
  subst hk
  have hlt := h.lt
  obtain ⟨q1, q2, q3⟩ := ho.cap
  have hk1 : Ke [s] w (w.setCell ⟨s, 0, none⟩ (.slice A2 S'.length c2)) := (Ke.refl _ _).set (p := ⟨s, 0, none⟩) (by simp) _
  refine ⟨⟨A2, c2, hs.set 0 _, (ho.ke hk1 (by simpa using hlt)).ra (fun x hx => ?_), q1, q2, q3⟩, hf, h0, h1, fun y hy => ?_, h.sK⟩
  · rcases List.mem_cons.1 hx with rfl | hx
    · exact hlt
    · exact h.low x hx
  · rw [World.size_setCell]
    have := h.low y hy
    omega

set_option maxRecDepth 100000 in
set_option maxHeartbeats 4000000 in
theorem rdrop_ok (u : World) {K : List Nat} {s : Nat} {now : Int} {S : List Ky} (h : Rk u K s now S) (k : Int) (b : Bool) (hb : (atM k S).isSome = b) :
    Calls Try.prog 13 #[.pointer (some ⟨s, 0, none⟩), .int .i64 k] u fun e u' => e = .returned (.bool b) ∧ Rk u' K s now (outM k S) ∧ Ke [s] u u' := by
  have H := Lib.hid h
  have HAT := Lib.hid (rat_ok u h k _ b rfl hb)
  obtain ⟨⟨A, cp, h1, h2, h3, h4, h5⟩, h6, _⟩ := h
  have HR := Lib.hid (And.intro h1 h2)
  obtain ⟨c0, c1⟩ := h1.cells2
  have HWO := Lib.hid (without_ok A S.length cp S k (s :: K) u rfl h2 h6)
  generalize S.length = n at c0 HWO
  clear h1 h2 h3 h4 h5 hb
  go_enter Try.func13, Try.ntmps13
  go_wp2_with (first
    | (go_at_call 20; refine HAT.out.mono ?_; rintro e u1 ⟨rfl, rfl⟩)
    | (go_at_call 25; refine HWO.out.mono ?_; rintro e u2 ⟨A2, m, c2, rfl, k1, k2, k3⟩; have H2 := Lib.hid (And.intro k1 (And.intro k2 k3)); have hc := (HR.out.1.below k3 (HR.out.1.lt)); obtain ⟨d0, d1⟩ := hc.cells2; have f0 := hc.frozen 0; have HC := Lib.hid hc; clear k1 k2 k3 hc))
  go_ret
  refine ⟨rfl, rk_store H.out HC.out H.out.t0 H.out.t1 (.inr trivial) H2.out.2.2.size H2.out.2.1 H2.out.1 (Nat.le_trans (out_length_le _ _) H.out.few), ?_⟩
  exact (Ke.of H2.out.2.2).nil.set (p := ⟨s, 0, none⟩) (by simp) _
end Go.Proofs.Ytdfllobdefodfaa
