/- append of a row of numbers behind another one; two clocks side by side. -/
import Derived.Test.YtdfllobdefodfaaCkPl
namespace Go.Proofs.Ytdfllobdefodfaa
set_option linter.unusedVariables false
set_option linter.unusedSimpArgs false
open Go.RowKit

theorem Ri.below {u u' : World} {K : List Nat} {A : Option Addr} {l : List Int} {B : Nat} (h : Ri u K A l) (k : Below B u u') (hB : u.heap.size ≤ B) : Ri u' K A l := by
  rcases h with h | ⟨b, o, e, hn, hb, hc⟩
  · exact .inl h
  · exact .inr ⟨b, o, e, hn, Nat.lt_of_lt_of_le hb k.size, fun i hi => (k.cell (p := ⟨b, o + i, none⟩) (Nat.lt_of_lt_of_le hb hB)).trans (hc i hi)⟩
/-- []int{}. -/
theorem OI.empty (w : World) : OI (w.alloc (.cells #[] 3)) w.heap.size (some ⟨w.heap.size, 0, none⟩) 0 [] := by
  have := World.ownsRow_made (base := w.heap.size) (e := 3) (size := 1) w #[] 0 (Nat.le_refl _) (by unfold maxLen; omega) (by simp)
  exact this

/-- append of all that a row of numbers reads as, be it nil, as one operation. -/
theorem op_appi {o : Oper} {a : Act} {K : Act → World → Prop} {Q : Exit → Act → World → Prop} {w : World} (s x : Operand)
    (ho : o.op = .call { callee := .builtin .append, args := #[s, x], argTypes := #[31, 31] }) (B : Nat) (L : List Int) (A : Option Addr) (n c : Nat) (hs : a.eval s = .slice A n c) (hn : L.length = n) (hown : OI w B A c L)
    (M : List Int) (A' : Option Addr) (m c' : Nat) (hx : a.eval x = .slice A' m c') (hm : M.length = m) (hnil : A' = none → m = 0 ∧ c' = 0) (KK : List Nat) (hR : Ri w KK A' M)
    (hlen : n + m ≤ 1048576) (hbase : B ≤ w.heap.size) (s' : Nat) (hsum : n + m = s')
    (h : ∀ A2 c2 w', OI w' B A2 c2 (L ++ M) → Below B w w' → K (a.put o.dst (.slice A2 s' c2)) w') : o.wp Try.prog a w K Q := by
  obtain ⟨i0, hi1, hz0, hs0, hb0⟩ := info_parts i64_info
  subst hn; subst hm; subst hsum
  cases A' with
  | none =>
    obtain ⟨h0, h1⟩ := hnil rfl
    have hk : M = [] := List.eq_nil_of_length_eq_zero h0
    subst hk
    subst h1
    have hrun := run_append_owned_none (P := Try.prog) (w := w) B 31 o.type 3 i0 1 Try.underlying31 hi1 _ L.length (i64s L) hown
    have := h A c w (by rw [List.append_nil]; exact hown) (Below.refl B w)
    unfold Oper.wp
    simp [execOp, ho, resolve, invoke, builtin, hs, hx, hrun, Result.andThen]
    exact (by simpa using this : K (a.put o.dst (Value.slice A L.length c)) w)
  | some ad =>
    refine wp_append_own w s x 31 ho B 3 i0 (.int .i64 0) 1 8 Try.underlying31 hi1 hz0 hs0 hb0 rfl (by decide) _ L.length (i64s L) hs hown ad M.length c' (i64s M) hx (by simp) ?_ ?_ (by unfold maxLen; omega) (by omega) hbase ?_
    · intro j u hu
      have hj : j < M.length := by
        rcases Nat.lt_or_ge j M.length with h1 | h1
        · exact h1
        · rw [List.getElem?_eq_none (by simpa using h1)] at hu; cases hu
      rcases hR with h0 | ⟨b, off, e1, _, _, hc⟩
      · subst h0; simp at hj
      · injection e1 with e1
        subst e1
        rw [add_plain, hc j hj]
        simp [hj] at hu
        exact congrArg some hu
    · intro u hu
      obtain ⟨y, _, rfl⟩ := List.mem_map.1 hu
      rfl
    · intro v' w' hown' hg _
      have hbel : Below B w w' := (Below.refl B w).grown hg hbase (fun k hk => (World.ownsRow.lt hown k hk).1)
      have hlen' : (L ++ M).length = L.length + M.length := List.length_append
      have hmap : i64s L ++ i64s M = i64s (L ++ M) := by simp
      rw [hmap] at hown'
      by_cases h0 : L.length + M.length = 0
      · have h00 : L ++ M = [] := List.eq_nil_of_length_eq_zero (by omega)
        rw [h0] at hown'
        rcases hown'.2 with ⟨rfl, _⟩ | ⟨g, cap, cur, rfl, _, r⟩
        · have := h none 0 w' (by rw [h00]; exact OI.nil w' B) hbel
          rwa [h0] at this
        · have := h (some ⟨g, 0, none⟩) cap w' (by unfold OI; rw [h00] at hown' ⊢; exact hown') hbel
          rwa [h0] at this
      · obtain ⟨g, cap, rfl, _, _⟩ := World.ownsRow.form hown' (by omega)
        exact h (some ⟨g, 0, none⟩) cap w' (by unfold OI; rw [hlen']; exact hown') hbel
theorem wp_appi {ops : Array Oper} {rest : List Oper} {o : Oper} {a : Act} {Q : Exit → Act → World → Prop} {w : World} (hw : Region.wanted o (yielded ops a.tmps) = true) (s x : Operand)
    (ho : o.op = .call { callee := .builtin .append, args := #[s, x], argTypes := #[31, 31] }) (B : Nat) (L : List Int) (A : Option Addr) (n c : Nat) (hs : a.eval s = .slice A n c) (hn : L.length = n) (hown : OI w B A c L)
    (M : List Int) (A' : Option Addr) (m c' : Nat) (hx : a.eval x = .slice A' m c') (hm : M.length = m) (hnil : A' = none → m = 0 ∧ c' = 0) (KK : List Nat) (hR : Ri w KK A' M)
    (hlen : n + m ≤ 1048576) (hbase : B ≤ w.heap.size) (s' : Nat) (hsum : n + m = s')
    (h : ∀ A2 c2 w', OI w' B A2 c2 (L ++ M) → Below B w w' → wpList Try.prog ops Q rest (a.put o.dst (.slice A2 s' c2)) w') : wpList Try.prog ops Q (o :: rest) a w :=
  wpList_wanted hw fun K hK => op_appi s x ho B L A n c hs hn hown M A' m c' hx hm hnil KK hR hlen hbase s' hsum (fun A2 c2 w' k1 k2 => hK _ _ (h A2 c2 w' k1 k2))

/-- Two clocks, that have no block in common. -/
structure C2 (W u : World) (G : List Nat) (c : Nat) (n : Int) (S : List Ky) (H : List Nat) (d : Nat) (m : Int) (T : List Ky) : Prop where
  l : Cw W u G c n S
  r : Cw W u H d m T
  ne : ∀ y ∈ G, y ∉ H
theorem C2.left {W u u' : World} {G G' H : List Nat} {c d : Nat} {n m n' : Int} {S T S' : List Ky} (h : C2 W u G c n S H d m T) (s : Sp u u' G G') (k : Cw W u' G' c n' S') : C2 W u' G' c n' S' H d m T :=
  ⟨k, ⟨h.r.ck.ke s.k h.ne, k.b, h.r.lo⟩, fun y hy hH => by
    rcases s.g y hy with e | e
    · exact h.ne y e hH
    · have := h.r.ck.low y hH; omega⟩
theorem C2.right {W u u' : World} {G H H' : List Nat} {c d : Nat} {n m m' : Int} {S T T' : List Ky} (h : C2 W u G c n S H d m T) (s : Sp u u' H H') (k : Cw W u' H' d m' T') : C2 W u' G c n S H' d m' T' :=
  ⟨⟨h.l.ck.ke s.k (fun x hx hG => h.ne x hG hx), k.b, h.l.lo⟩, k, fun y hy hH => by
    rcases s.g y hH with e | e
    · exact h.ne y hy e
    · have := h.l.ck.low y hy; omega⟩
theorem C2.ke {W u u' : World} {G H : List Nat} {c d : Nat} {n m : Int} {S T : List Ky} (h : C2 W u G c n S H d m T) (k : Ke [] u u') : C2 W u' G c n S H d m T := ⟨h.l.ke k, h.r.ke k, h.ne⟩
theorem Ri.keep {w w' : World} {K L : List Nat} {A : Option Addr} {l : List Int} (h : Ri w K A l) (k : Ke L w w') (hL : ∀ x ∈ L, x ∈ K) : Ri w' K A l := by
  rcases h with h | ⟨b, o, e, hn, hb, hc⟩
  · exact .inl h
  · exact .inr ⟨b, o, e, hn, Nat.lt_of_lt_of_le hb k.size, fun i hi => (World.cell?_of_block (w := w) (a := ⟨b, o + i, none⟩) (k.block b hb (fun hx => hn (hL b hx)))).trans (hc i hi)⟩
/-- Tick, where it may pass; its row lies away from some blocks that were there. -/
theorem w_tickK {W u : World} {c : Nat} {now : Int} {G : List Nat} {S : List Ky} (h : Cw W u G c now S) (K : List Nat) (hK : ∀ x ∈ K, x < u.heap.size) (n : Int) (hn : Wf n) (h0 : 0 ≤ n) (h1 : n ≤ 1099511627776 - now) (nw : Int) (L : List Int) (S' : List Ky) (m : Nat) (hnw : now + n = nw) (hL : goM nw S = L) (hS : stayM nw S = S') (hm : L.length = m) :
    Calls Try.prog 14 #[.pointer (some ⟨c, 0, none⟩), .int .i64 n] u fun e u' => ∃ A cp, e = .returned (.tuple #[.slice A m cp, .int .i64 0]) ∧ Ri u' K A L ∧ m ≤ cp ∧ cp ≤ 9223372036854775807 ∧ (A = none → m = 0 ∧ cp = 0) ∧ Cw W u' G c nw S' ∧ Sp u u' G G := by
  subst hnw; subst hL; subst hS; subst hm
  exact (tick_ok u h.ck n hn).mono fun e u' hp => by
    obtain ⟨A, cp, k1, k2, k3⟩ := hp.fine (by omega)
    obtain ⟨q1, q2, q3⟩ := k2.cap
    exact ⟨A, cp, k1, k2.ri hK, q1, q2, q3, h.step (Sp.of hp.k) k3, Sp.of hp.k⟩

theorem Cw.below {W u u' : World} {G : List Nat} {c : Nat} {n : Int} {S : List Ky} (h : Cw W u G c n S) (k : Below u.heap.size u u') : Cw W u' G c n S :=
  ⟨h.ck.below k h.ck.low, h.b.trans (k.mono h.b.size), h.lo⟩
theorem C2.below {W u u' : World} {G H : List Nat} {c d : Nat} {n m : Int} {S T : List Ky} (h : C2 W u G c n S H d m T) (k : Below u.heap.size u u') : C2 W u' G c n S H d m T := ⟨h.l.below k, h.r.below k, h.ne⟩
theorem same_b (A A' : Option Addr) (cp cp' : Nat) (L : List Int) (K K' : List Nat) (u : World) (n : Nat) (hn : L.length = n) (hR : Ri u K A L) (hR' : Ri u K' A' L) (hc : n ≤ 9223372036854775807) :
    Calls Try.prog 16 #[.slice A n cp, .slice A' n cp'] u fun e u' => e = .returned (.bool true) ∧ Ke [] u u' :=
  (same_ok A A' cp cp' L L K K' u n n hn hn hR hR' hc hc).mono fun e u' ⟨h1, h2⟩ => ⟨by rw [h1]; simp, h2⟩
end Go.Proofs.Ytdfllobdefodfaa
