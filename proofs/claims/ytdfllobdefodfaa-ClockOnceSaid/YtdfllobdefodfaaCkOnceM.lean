/- Plain facts for ClockOnce. -/
import Derived.Test.YtdfllobdefodfaaCkApp
namespace Go.Proofs.Ytdfllobdefodfaa
set_option linter.unusedVariables false
set_option linter.unusedSimpArgs false
open Go.RowKit

/-- The alarms are those of the first i times. -/
structure Of (ts : List Int) (i : Nat) (S : List Ky) : Prop where
  mem : ∀ y : Ky, y ∈ S ↔ ∃ (j : Nat) (x : Int), j < i ∧ ts[j]? = some x ∧ y = ((j : Int), 1 + x)
  srt : Srt S
  len : S.length ≤ i
theorem Of.nil (ts : List Int) : Of ts 0 [] := ⟨fun y => by simp, Srt.nil, Nat.le_refl _⟩
theorem Of.step {ts : List Int} {i : Nat} {S : List Ky} (h : Of ts i S) (hi : i < 1024) {x : Int} (hx : ts[i]? = some x) (h0 : 0 ≤ x) (h1 : x ≤ 65535) : setE 0 S (i : Int) (1 + x) = 0 ∧ Of ts (i + 1) (setS 0 S (i : Int) (1 + x)) := by
  obtain ⟨e1, e2⟩ := setE_ok (now := 0) (S := S) (k := (i : Int)) (t := 1 + x) (by omega) (by have := h.len; omega)
  refine ⟨e1, ?_⟩
  have hl := set_length 0 S (i : Int) (1 + x)
  rw [e2] at hl ⊢
  refine ⟨fun y => ?_, h.srt.set _ _, by have := h.len; omega⟩
  rw [setM_mem, h.mem y]
  constructor
  · rintro (rfl | ⟨⟨j, z, hj, hz, rfl⟩, hn⟩)
    · exact ⟨i, x, by omega, hx, rfl⟩
    · exact ⟨j, z, by omega, hz, rfl⟩
  · rintro ⟨j, z, hj, hz, rfl⟩
    by_cases e : j = i
    · subst e
      rw [hx] at hz
      injection hz with hz
      subst hz
      exact .inl rfl
    · exact .inr ⟨⟨j, z, by omega, hz, rfl⟩, by simp; omega⟩

/-- Which are gone, when k of L are marked. -/
structure Gn (ts : List Int) (w : Int) (L : List Int) (k : Nat) (gl : List Bool) : Prop where
  len : gl.length = ts.length
  at_ : ∀ (j : Nat) (x : Int), ts[j]? = some x → gl[j]? = some (decide (1 + x ≤ w) || decide ((j : Int) ∈ L.take k))
theorem Gn.start {ts : List Int} (h0 : ∀ x ∈ ts, 0 ≤ x) : Gn ts 0 [] 0 (List.replicate ts.length false) := by
  refine ⟨by simp, fun j x hx => ?_⟩
  have hj : j < ts.length := (List.getElem?_eq_some_iff.1 hx).1
  have := h0 x (List.mem_of_getElem? hx)
  have e : ¬ 1 + x ≤ 0 := by omega
  simp [hj, e]
theorem Gn.more {ts : List Int} {w : Int} {gl : List Bool} (h : Gn ts w [] 0 gl) (L : List Int) : Gn ts w L 0 gl := ⟨h.len, fun j x hx => by rw [h.at_ j x hx]; simp⟩
theorem Gn.step {ts : List Int} {w : Int} {L : List Int} {k j : Nat} {gl : List Bool} (h : Gn ts w L k gl) (hk : L[k]? = some (j : Int)) (hj : j < ts.length) : Gn ts w L (k + 1) (gl.set j true) := by
  have hkl : k < L.length := (List.getElem?_eq_some_iff.1 hk).1
  have hke : L[k] = (j : Int) := (List.getElem?_eq_some_iff.1 hk).2
  refine ⟨by rw [List.length_set]; exact h.len, fun i x hx => ?_⟩
  rw [List.getElem?_set, List.take_succ_eq_append_getElem hkl, hke]
  by_cases e : j = i
  · subst e
    rw [if_pos rfl, if_pos (by rw [h.len]; exact hj)]
    simp
  · rw [if_neg e, h.at_ i x hx]
    have : ¬ (i : Int) = (j : Int) := by omega
    simp [this]
/-- The last step: all whose time is up to nw are gone. -/
theorem Gn.done {ts : List Int} {w nw : Int} {S : List Ky} {L : List Int} {gl : List Bool} (h : Gn ts w L L.length gl) (hS : Of ts ts.length S) (hL : goM nw (stayM w S) = L) (hw : w ≤ nw) : Gn ts nw [] 0 gl := by
  refine ⟨h.len, fun j x hx => ?_⟩
  have hj : j < ts.length := (List.getElem?_eq_some_iff.1 hx).1
  rw [h.at_ j x hx, List.take_of_length_le (Nat.le_refl _)]
  have hin : (j : Int) ∈ L ↔ (w < 1 + x ∧ 1 + x ≤ nw) := by
    rw [← hL, go_mem]
    constructor
    · rintro ⟨y, hy, h1, h2⟩
      obtain ⟨h3, h4⟩ := stay_mem.1 hy
      obtain ⟨j', x', _, hx', rfl⟩ := (hS.mem y).1 h3
      have e : j' = j := by simp at h2; omega
      subst e
      rw [hx] at hx'
      injection hx' with e
      subst e
      exact ⟨h4, h1⟩
    · rintro ⟨h1, h2⟩
      exact ⟨((j : Int), 1 + x), stay_mem.2 ⟨(hS.mem _).2 ⟨j, x, hj, hx, rfl⟩, h1⟩, h2, rfl⟩
  congr 1
  by_cases h1 : 1 + x ≤ w
  · simp [h1, show 1 + x ≤ nw by omega]
  · by_cases h2 : 1 + x ≤ nw
    · simp [h1, h2, hin.2 ⟨by omega, h2⟩]
    · have : ¬ (j : Int) ∈ L := fun hh => h2 (hin.1 hh).2
      simp [h1, h2, this]

theorem Gn.done' {ts : List Int} {w nw : Int} {S : List Ky} {L : List Int} {gl : List Bool} {k : Nat} (h : Gn ts w L k gl) (hk : k = L.length) (hS : Of ts ts.length S) (hL : goM nw (stayM w S) = L) (hw : w ≤ nw) : Gn ts nw [] 0 gl := by
  subst hk
  exact h.done hS hL hw
/-- What the k-th that goes is. -/
structure Kth (ts : List Int) (w nw : Int) (L : List Int) (k : Nat) (j : Nat) (x : Int) : Prop where
  at_ : L[k]? = some (j : Int)
  t : ts[j]? = some x
  lo : w < 1 + x
  hi : 1 + x ≤ nw
  new : (j : Int) ∉ L.take k
theorem srt_pair {S : List Ky} (h : S.Pairwise Kl) {i k : Nat} (hik : i < k) (hk : k < S.length) : Kl S[i] S[k] := List.pairwise_iff_getElem.1 h i k (by omega) hk hik
theorem kth {ts : List Int} {w nw : Int} {S : List Ky} {L : List Int} (hS : Of ts ts.length S) (hL : goM nw (stayM w S) = L) {k : Nat} (hk : k < L.length) :
    (∃ j x, Kth ts w nw L k j x ∧ ∀ p, p + 1 = k → ∃ j' x', Kth ts w nw L p j' x' ∧ (x' < x ∨ (x' = x ∧ j' < j))) := by
  obtain ⟨T, hT⟩ : ∃ T, T = (stayM w S).filter (fun x => decide (x.2 ≤ nw)) := ⟨_, rfl⟩
  have hTL : L = T.map (·.1) := by rw [← hL, hT]; rfl
  have hsT : Srt T := by rw [hT]; exact ⟨(hS.srt.stay w).ord.filter _, (hS.srt.stay w).ids.filter _⟩
  have hlen : T.length = L.length := by rw [hTL, List.length_map]
  have one : ∀ q, (hq : q < T.length) → ∃ j x, Kth ts w nw L q j x ∧ T[q] = ((j : Int), 1 + x) := fun q hq => by
    have hm : T[q] ∈ T := List.getElem_mem hq
    have hm2 : T[q] ∈ (stayM w S).filter (fun x => decide (x.2 ≤ nw)) := hT ▸ hm
    obtain ⟨h1, h2⟩ := List.mem_filter.1 hm2
    obtain ⟨h3, h4⟩ := stay_mem.1 h1
    obtain ⟨j, x, hj, hx, e⟩ := (hS.mem _).1 h3
    rw [e] at h2 h4
    refine ⟨j, x, ⟨?_, hx, h4, by simpa using h2, ?_⟩, e⟩
    · rw [hTL, List.getElem?_map, List.getElem?_eq_getElem hq, e]; rfl
    · intro hin
      rw [hTL] at hin
      obtain ⟨r, hr, er⟩ := List.mem_iff_getElem.1 hin
      rw [List.length_take] at hr
      rw [List.getElem_take, List.getElem_map] at er
      have hne := List.pairwise_iff_getElem.1 hsT.ids r q (by omega) hq (by omega)
      rw [er, e] at hne
      exact hne rfl
  obtain ⟨j, x, h1, e1⟩ := one k (by omega)
  refine ⟨j, x, h1, fun p hp => ?_⟩
  obtain ⟨j', x', h2, e2⟩ := one p (by omega)
  refine ⟨j', x', h2, ?_⟩
  have := srt_pair hsT.ord (i := p) (k := k) (by omega) (by omega)
  rw [e1, e2] at this
  unfold Kl at this
  simp only at this
  omega

/-- What the latest time of those that went is. -/
def Lst (ts : List Int) (w nw : Int) (L : List Int) (k : Nat) (last : Int) : Prop := 0 ≤ last ∧ (last ≤ w ∨ ∃ p j x, p + 1 = k ∧ Kth ts w nw L p j x ∧ last = 1 + x)
theorem Lst.le {ts : List Int} {w nw : Int} {L : List Int} {k : Nat} {last : Int} (h : Lst ts w nw L k last) (hw : w ≤ nw) : 0 ≤ last ∧ last ≤ nw := by
  obtain ⟨h0, h | ⟨p, j, x, _, h1, h2⟩⟩ := h
  · omega
  · have := h1.hi; omega
theorem Lst.next {ts : List Int} {w nw : Int} {L : List Int} {k : Nat} {last : Int} (h : Lst ts w nw L k last) {j : Nat} {x : Int} (hk : Kth ts w nw L k j x) (hp : ∀ p, p + 1 = k → ∃ j' x', Kth ts w nw L p j' x' ∧ (x' < x ∨ (x' = x ∧ j' < j))) : last ≤ 1 + x := by
  obtain ⟨h0, h | ⟨p, j', x', e, h1, h2⟩⟩ := h
  · have := hk.lo; omega
  · obtain ⟨j2, x2, h3, h4⟩ := hp p e
    have e1 := h1.at_.symm.trans h3.at_
    injection e1 with e1
    have e2 : j' = j2 := by omega
    subst e2
    have e3 := h1.t.symm.trans h3.t
    injection e3 with e3
    omega
theorem stay_end {ts : List Int} {S : List Ky} {w : Int} (hS : Of ts ts.length S) (hw : 65536 ≤ w) (h1 : ∀ x ∈ ts, x ≤ 65535) : stayM w S = [] := by
  unfold stayM
  apply List.filter_eq_nil_iff.2
  intro y hy
  obtain ⟨j, x, _, hx, rfl⟩ := (hS.mem y).1 hy
  have := h1 x (List.mem_of_getElem? hx)
  simp; omega
theorem stay_zero {ts : List Int} {S : List Ky} (hS : Of ts ts.length S) (h0 : ∀ x ∈ ts, 0 ≤ x) : stayM 0 S = S := by
  unfold stayM
  apply List.filter_eq_self.2
  intro y hy
  obtain ⟨j, x, _, hx, rfl⟩ := (hS.mem y).1 hy
  have := h0 x (List.mem_of_getElem? hx)
  simp; omega

/-- An element of a row of numbers that came in. -/
theorem InN.cellAt {k : IntKind} {W u : World} {A : Option Addr} {l : List Int} {n c : Nat} (h : InN k W A l n c) (hb : Below W.heap.size W u) {i : Nat} (hi : i < n) : ∃ b o x, A = some ⟨b, o, none⟩ ∧ u.cell? ⟨b, o + i, none⟩ = some (.int k x) ∧ l[i]? = some x ∧ (Lit.int k x).wf = true := by
  have hil : i < l.length := by rw [h.len]; exact hi
  rcases h.at_ with h0 | ⟨b, o, e, hlt, hc⟩
  · omega
  · exact ⟨b, o, l[i], e, (hb.cell (p := ⟨b, o + i, none⟩) hlt).trans (hc i hil), List.getElem?_eq_getElem hil, h.wf _ (List.getElem_mem hil)⟩
end Go.Proofs.Ytdfllobdefodfaa
