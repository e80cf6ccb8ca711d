/- Rows of numbers: owned, read, appended, compared (the document's Same). -/
import Derived.Test.YtndamiocmdnenaaSp
import Derived.Test.YtndamiocmdnenaaOpen
import Derived.Deep.QuietTactic
namespace Go.Proofs.Ytndamiocmdnenaa
set_option linter.unusedVariables false
set_option maxRecDepth 100000
set_option linter.unusedSimpArgs false
open Go.RowKit

abbrev i64s (L : List Int) : List Value := L.map (fun x => Value.int .i64 x)
/-- The slice at A, of capacity c, owns the numbers L: it lies at block B or behind it. -/
def OI (w : World) (B : Nat) (A : Option Addr) (c : Nat) (L : List Int) : Prop := w.ownsRow B 3 1 (.slice A L.length c) L.length (i64s L)
theorem OI.nil (w : World) (B : Nat) : OI w B none 0 [] := World.ownsRow_nil w B 3 1
theorem OI.ke {w w' : World} {B : Nat} {A : Option Addr} {c : Nat} {L : List Int} {K : List Nat} (h : OI w B A c L) (k : Ke K w w') (hK : ∀ x ∈ K, x < B) : OI w' B A c L := by
  refine ⟨h.1, ?_⟩
  rcases h.2 with hn | ⟨g, cap, cur, hv, hg, hh, r⟩
  · exact .inl hn
  · refine .inr ⟨g, cap, cur, hv, hg, ?_, r⟩
    rw [k.block g (lt_of_block hh) (fun hx => by have := hK g hx; omega)]
    exact hh
theorem i64_info : (Try.prog.info? 3).map (fun i => (i.zero, i.size, i.bytes)) = some (some (.int .i64 0), 1, 8) := by kernel_rfl

/-- One number more. -/
theorem wp_app_int {ops : Array Oper} {rest : List Oper} {o : Oper} {a : Act} {Q : Exit → Act → World → Prop} {w : World} (hgd : o.guard = none) (s x : Operand)
    (ho : o.op = .call { callee := .builtin .append, args := #[s, x], argTypes := #[27, 27] }) (B : Nat) (L : List Int) (A : Option Addr) (n c : Nat) (hs : a.eval s = .slice A n c) (hn : L.length = n) (hown : OI w B A c L)
    (v : Int) (b : Nat) (hx : a.eval x = .slice (some ⟨b, 0, none⟩) 1 1) (hb : w.cell? ⟨b, 0, none⟩ = some (.int .i64 v)) (hlen : n ≤ 1048576) (hbase : B ≤ w.heap.size)
    (n' : Nat) (hn' : n' = n + 1)
    (h : ∀ A2 c2 w', OI w' B A2 c2 (L ++ [v]) → Below B w w' → wpList Try.prog ops Q rest (a.put o.dst (.slice A2 n' c2)) w') : wpList Try.prog ops Q (o :: rest) a w := by
  obtain ⟨i0, hi1, hz0, hs0, hb0⟩ := info_parts i64_info
  subst hn
  subst hn'
  refine wpList_append_own w hgd s x 27 ho B 3 i0 (.int .i64 0) 1 8 Try.underlying27 hi1 hz0 hs0 hb0 rfl (by decide) _ L.length (i64s L) hs hown ⟨b, 0, none⟩ 1 1 [.int .i64 v] hx rfl ?_ (by simp [Value.oneCell']) (by unfold maxLen; omega) (by omega) hbase ?_
  · intro j u hu
    have hj : j = 0 := by
      rcases Nat.eq_zero_or_pos j with h0 | h0
      · exact h0
      · rw [List.getElem?_eq_none (by simp; omega)] at hu; cases hu
    subst hj
    simp at hu
    subst hu
    rw [add_plain]
    exact hb
  · intro v' w' hown' hg _
    have hbel : Below B w w' := (Below.refl B w).grown hg hbase (fun k hk => (World.ownsRow.lt hown k hk).1)
    have hp : 0 < L.length + 1 := by omega
    obtain ⟨g, cap, rfl, _, _⟩ := World.ownsRow.form hown' hp
    refine h (some ⟨g, 0, none⟩) cap w' ?_ hbel
    unfold OI
    rw [List.length_append, show i64s (L ++ [v]) = i64s L ++ [.int .i64 v] by simp]
    exact hown'

theorem Ke.andBelow {L : List Nat} {u w w' : World} {B : Nat} (h : Ke L u w) (k : Below B w w') (hB : u.heap.size ≤ B) : Ke L u w' :=
  ⟨k.os.trans h.os, k.tape.trans h.tape, k.output.trans h.output, Nat.le_trans h.size k.size, fun i hi hL => (k.block i (by omega)).trans (h.block i hi hL)⟩

theorem Ke.drewN {L : List Nat} {a b : World} (h : Ke L a b) (n : Nat) : Ke L a (b.drewN n) := ⟨h.os, h.tape, h.output, h.size, h.block⟩
/-- The slice at A reads as the numbers l, and lies in none of the blocks of K. -/
def Ri (w : World) (K : List Nat) (A : Option Addr) (l : List Int) : Prop :=
  l = [] ∨ ∃ b o, A = some ⟨b, o, none⟩ ∧ b ∉ K ∧ b < w.heap.size ∧ ∀ i, (h : i < l.length) → w.cell? ⟨b, o + i, none⟩ = some (.int .i64 l[i])

theorem Ri.step {w w' : World} {G G' : List Nat} {A : Option Addr} {l : List Int} (h : Ri w G A l) (s : Sp w w' G G') : Ri w' G' A l := by
  rcases h with h | ⟨b, o, e, hn, hb, hc⟩
  · exact .inl h
  · refine .inr ⟨b, o, e, fun hx => ?_, Nat.lt_of_lt_of_le hb s.k.size, fun i hi => (World.cell?_of_block (w := w) (a := ⟨b, o + i, none⟩) (s.k.block b hb hn)).trans (hc i hi)⟩
    rcases s.g b hx with h1 | h1
    · exact hn h1
    · omega
theorem Ri.at_ {w : World} {K : List Nat} {A : Option Addr} {l : List Int} (h : Ri w K A l) {i : Nat} (hi : i < l.length) : ∃ b o x, A = some ⟨b, o, none⟩ ∧ w.cell? ⟨b, o + i, none⟩ = some (.int .i64 x) ∧ l[i]? = some x := by
  rcases h with h | ⟨b, o, e, _, _, hc⟩
  · subst h; simp at hi
  · exact ⟨b, o, l[i], e, hc i hi, List.getElem?_eq_getElem hi⟩
theorem OI.ri {w : World} {B : Nat} {A : Option Addr} {c : Nat} {l : List Int} {K : List Nat} (h : OI w B A c l) (hK : ∀ x ∈ K, x < B) : Ri w K A l := by
  by_cases h0 : l = []
  · exact .inl h0
  · have hp : 0 < l.length := List.length_pos_iff.2 h0
    obtain ⟨g, cap, hv, hb, hl⟩ := World.ownsRow.form h hp
    injection hv with h1 _ _
    subst h1
    refine .inr ⟨g, 0, rfl, fun hx => by have := hK g hx; omega, hl, fun i hi => ?_⟩
    have := World.ownsRow.cellAt h i (by omega)
    rw [Nat.zero_add, this]
    simp [hi]
theorem OI.cap {w : World} {B : Nat} {A : Option Addr} {c : Nat} {l : List Int} (h : OI w B A c l) : l.length ≤ c ∧ c ≤ 9223372036854775807 ∧ (A = none → l.length = 0 ∧ c = 0) := by
  rcases h.2 with ⟨hv, h0⟩ | ⟨g, cap, cur, hv, _, _, hn, hm, _⟩
  · injection hv with h1 _ h3
    exact ⟨by omega, by omega, fun _ => ⟨h0, h3⟩⟩
  · injection hv with h1 _ h3
    unfold maxLen at hm
    exact ⟨by omega, by omega, fun e => by rw [e] at h1; cases h1⟩
/-- A row of constant numbers that was just laid. -/
theorem Ri.lit {w : World} {K : List Nat} (l : List Int) (cs : Array Value) (hcs : cs = (i64s l).toArray) (hK : ∀ y ∈ K, y < w.heap.size) : Ri (w.alloc (.cells cs 3)) K (some ⟨w.heap.size, 0, none⟩) l := by
  subst hcs
  refine .inr ⟨w.heap.size, 0, rfl, fun hx => by have := hK _ hx; omega, by rw [World.size_alloc]; omega, fun i hi => ?_⟩
  rw [(Bk.new w 3 _).cell, Nat.zero_add]
  simp [hi]

set_option maxRecDepth 100000 in
set_option maxHeartbeats 4000000 in
theorem oisame_ok (A A' : Option Addr) (cp cp' : Nat) (L L' : List Int) (K K' : List Nat) (u : World) (n m : Nat) (hn : L.length = n) (hm : L'.length = m) (hR : Ri u K A L) (hR' : Ri u K' A' L') (hc : n ≤ 9223372036854775807) (hc' : m ≤ 9223372036854775807) :
    Calls Try.prog 33 #[.slice A n cp, .slice A' m cp'] u fun e u' => e = .returned (.bool (decide (L = L'))) ∧ Ke [] u u' := by
  by_cases hnm : n = m
  · subst hnm
    have HA := Lib.hid (And.intro hR hR')
    have HL := Lib.hid (And.intro hn hm)
    clear hR hR' hn hm
    go_enter Try.func33, Try.ntmps33
    go_wp2_with fail
    go_loopw [5] (fun v5 wr => ∃ i : Nat, i ≤ n ∧ v5 = .int .i64 (i : Int) ∧ Hid (Ke [] u wr ∧ ∀ j, j < i → L[j]? = L'[j]?)) (fun v5 _ => n - (intOf v5).toNat)
    case atStart => exact ⟨0, by omega, rfl, Lib.hid ⟨Ke.refl _ _, fun j hj => by omega⟩⟩
    case round =>
      obtain ⟨i, hi, rfl, HR⟩ := hrel
      by_cases hin : i < n
      · have hi2 : (i : Int) < (n : Int) := by omega
        obtain ⟨b, o, x, rfl, c1, hx⟩ := (HA.out.1.step (G' := K) (Sp.of (HR.out.1.nil))).at_ (i := i) (by rw [HL.out.1]; exact hin)
        obtain ⟨b', o', y, rfl, c2, hy⟩ := (HA.out.2.step (G' := K') (Sp.of (HR.out.1.nil))).at_ (i := i) (by rw [HL.out.2]; exact hin)
        have HXY := Lib.hid (And.intro hx hy)
        clear hx hy
        by_cases hxy : x = y
        · subst hxy
          go_wp2_with fail
          go_quiet (fail)
          go_wp2_with fail
          go_roundw
          case rel => exact ⟨i + 1, by omega, by go_num, Lib.hid ⟨HR.out.1.drewN _, fun j hj => by
            by_cases e : j = i
            · subst e; rw [HXY.out.1, HXY.out.2]
            · exact HR.out.2 j (by omega)⟩⟩
          case measure => simp [intOf]; omega
        · have hbe : (x == y) = false := by simp [hxy]
          have HNE := Lib.hid (show decide (L = L') = false by
            simp only [decide_eq_false_iff_not]
            intro e
            have h1 := HXY.out.1
            rw [e, HXY.out.2] at h1
            injection h1 with h1
            exact hxy h1.symm)
          go_wp2_with fail
          go_quiet (fail)
          go_wp2_with fail
          go_ret
          exact ⟨by rw [HNE.out]; rfl, HR.out.1.drewN _⟩
      · have hi2 : ¬ (i : Int) < (n : Int) := by omega
        have hd : decide ((i : Int) < (n : Int)) = false := by simp; omega
        have HEQ := Lib.hid (show decide (L = L') = true by
          simp only [decide_eq_true_eq]
          apply List.ext_getElem?
          intro j
          by_cases hj : j < i
          · exact HR.out.2 j hj
          · rw [List.getElem?_eq_none (by rw [HL.out.1]; omega), List.getElem?_eq_none (by rw [HL.out.2]; omega)])
        go_wp2_with fail
        go_ret
        exact ⟨by rw [HEQ.out]; rfl, HR.out.1⟩
  · have HNE := Lib.hid (show decide (L = L') = false by
      simp only [decide_eq_false_iff_not]
      intro e
      rw [e] at hn
      omega)
    have h1 : ¬ (n : Int) = (m : Int) := by omega
    have hbe : ((n : Int) == (m : Int)) = false := by simp; omega
    clear hR hR' hn hm
    go_enter Try.func33, Try.ntmps33
    go_wp2_with fail
    go_ret
    exact ⟨by rw [HNE.out]; rfl, Ke.refl _ _⟩

theorem Ri.below {u u' : World} {K : List Nat} {A : Option Addr} {l : List Int} {B : Nat} (h : Ri u K A l) (k : Below B u u') (hB : u.heap.size ≤ B) : Ri u' K A l := by
  rcases h with h | ⟨b, o, e, hn, hb, hc⟩
  · exact .inl h
  · exact .inr ⟨b, o, e, hn, Nat.lt_of_lt_of_le hb k.size, fun i hi => (k.cell (p := ⟨b, o + i, none⟩) (Nat.lt_of_lt_of_le hb hB)).trans (hc i hi)⟩
/-- []int{}. -/
theorem OI.empty (w : World) : OI (w.alloc (.cells #[] 3)) w.heap.size (some ⟨w.heap.size, 0, none⟩) 0 [] := by
  have := World.ownsRow_made (base := w.heap.size) (e := 3) (size := 1) w #[] 0 (Nat.le_refl _) (by unfold maxLen; omega) (by simp)
  exact this

/-- append of all that a row of numbers reads as, be it nil, as one operation. -/
theorem op_appi {o : Oper} {a : Act} {K : Act → World → Prop} {Q : Exit → Act → World → Prop} {w : World} (s x : Operand)
    (ho : o.op = .call { callee := .builtin .append, args := #[s, x], argTypes := #[27, 27] }) (B : Nat) (L : List Int) (A : Option Addr) (n c : Nat) (hs : a.eval s = .slice A n c) (hn : L.length = n) (hown : OI w B A c L)
    (M : List Int) (A' : Option Addr) (m c' : Nat) (hx : a.eval x = .slice A' m c') (hm : M.length = m) (hnil : A' = none → m = 0 ∧ c' = 0) (KK : List Nat) (hR : Ri w KK A' M)
    (hlen : n + m ≤ 1048576) (hbase : B ≤ w.heap.size) (s' : Nat) (hsum : n + m = s')
    (h : ∀ A2 c2 w', OI w' B A2 c2 (L ++ M) → Below B w w' → K (a.put o.dst (.slice A2 s' c2)) w') : o.wp Try.prog a w K Q := by
  obtain ⟨i0, hi1, hz0, hs0, hb0⟩ := info_parts i64_info
  subst hn; subst hm; subst hsum
  cases A' with
  | none =>
    obtain ⟨h0, h1⟩ := hnil rfl
    have hk : M = [] := List.eq_nil_of_length_eq_zero h0
    subst hk
    subst h1
    have hrun := run_append_owned_none (P := Try.prog) (w := w) B 27 o.type 3 i0 1 Try.underlying27 hi1 _ L.length (i64s L) hown
    have := h A c w (by rw [List.append_nil]; exact hown) (Below.refl B w)
    unfold Oper.wp
    simp [execOp, ho, resolve, invoke, builtin, hs, hx, hrun, Result.andThen]
    exact (by simpa using this : K (a.put o.dst (Value.slice A L.length c)) w)
  | some ad =>
    refine wp_append_own w s x 27 ho B 3 i0 (.int .i64 0) 1 8 Try.underlying27 hi1 hz0 hs0 hb0 rfl (by decide) _ L.length (i64s L) hs hown ad M.length c' (i64s M) hx (by simp) ?_ ?_ (by unfold maxLen; omega) (by omega) hbase ?_
    · intro j u hu
      have hj : j < M.length := by
        rcases Nat.lt_or_ge j M.length with h1 | h1
        · exact h1
        · rw [List.getElem?_eq_none (by simpa using h1)] at hu; cases hu
      rcases hR with h0 | ⟨b, off, e1, _, _, hc⟩
      · subst h0; simp at hj
      · injection e1 with e1
        subst e1
        rw [add_plain, hc j hj]
        simp [hj] at hu
        exact congrArg some hu
    · intro u hu
      obtain ⟨y, _, rfl⟩ := List.mem_map.1 hu
      rfl
    · intro v' w' hown' hg _
      have hbel : Below B w w' := (Below.refl B w).grown hg hbase (fun k hk => (World.ownsRow.lt hown k hk).1)
      have hlen' : (L ++ M).length = L.length + M.length := List.length_append
      have hmap : i64s L ++ i64s M = i64s (L ++ M) := by simp
      rw [hmap] at hown'
      by_cases h0 : L.length + M.length = 0
      · have h00 : L ++ M = [] := List.eq_nil_of_length_eq_zero (by omega)
        rw [h0] at hown'
        rcases hown'.2 with ⟨rfl, _⟩ | ⟨g, cap, cur, rfl, _, r⟩
        · have := h none 0 w' (by rw [h00]; exact OI.nil w' B) hbel
          rwa [h0] at this
        · have := h (some ⟨g, 0, none⟩) cap w' (by unfold OI; rw [h00] at hown' ⊢; exact hown') hbel
          rwa [h0] at this
      · obtain ⟨g, cap, rfl, _, _⟩ := World.ownsRow.form hown' (by omega)
        exact h (some ⟨g, 0, none⟩) cap w' (by unfold OI; rw [hlen']; exact hown') hbel
theorem wp_appi {ops : Array Oper} {rest : List Oper} {o : Oper} {a : Act} {Q : Exit → Act → World → Prop} {w : World} (hw : Region.wanted o (yielded ops a.tmps) = true) (s x : Operand)
    (ho : o.op = .call { callee := .builtin .append, args := #[s, x], argTypes := #[27, 27] }) (B : Nat) (L : List Int) (A : Option Addr) (n c : Nat) (hs : a.eval s = .slice A n c) (hn : L.length = n) (hown : OI w B A c L)
    (M : List Int) (A' : Option Addr) (m c' : Nat) (hx : a.eval x = .slice A' m c') (hm : M.length = m) (hnil : A' = none → m = 0 ∧ c' = 0) (KK : List Nat) (hR : Ri w KK A' M)
    (hlen : n + m ≤ 1048576) (hbase : B ≤ w.heap.size) (s' : Nat) (hsum : n + m = s')
    (h : ∀ A2 c2 w', OI w' B A2 c2 (L ++ M) → Below B w w' → wpList Try.prog ops Q rest (a.put o.dst (.slice A2 s' c2)) w') : wpList Try.prog ops Q (o :: rest) a w :=
  wpList_wanted hw fun K hK => op_appi s x ho B L A n c hs hn hown M A' m c' hx hm hnil KK hR hlen hbase s' hsum (fun A2 c2 w' k1 k2 => hK _ _ (h A2 c2 w' k1 k2))

theorem Ri.keep {w w' : World} {K L : List Nat} {A : Option Addr} {l : List Int} (h : Ri w K A l) (k : Ke L w w') (hL : ∀ x ∈ L, x ∈ K) : Ri w' K A l := by
  rcases h with h | ⟨b, o, e, hn, hb, hc⟩
  · exact .inl h
  · exact .inr ⟨b, o, e, hn, Nat.lt_of_lt_of_le hb k.size, fun i hi => (World.cell?_of_block (w := w) (a := ⟨b, o + i, none⟩) (k.block b hb (fun hx => hn (hL b hx)))).trans (hc i hi)⟩
theorem same_b (A A' : Option Addr) (cp cp' : Nat) (L : List Int) (K K' : List Nat) (u : World) (n : Nat) (hn : L.length = n) (hR : Ri u K A L) (hR' : Ri u K' A' L) (hc : n ≤ 9223372036854775807) :
    Calls Try.prog 33 #[.slice A n cp, .slice A' n cp'] u fun e u' => e = .returned (.bool true) ∧ Ke [] u u' :=
  (oisame_ok A A' cp cp' L L K K' u n n hn hn hR hR' hc hc).mono fun e u' ⟨h1, h2⟩ => ⟨by rw [h1]; simp, h2⟩
end Go.Proofs.Ytndamiocmdnenaa
