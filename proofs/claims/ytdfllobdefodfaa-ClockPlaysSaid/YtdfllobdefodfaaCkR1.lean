/- The document's own clock: its rows of alarms; without, At, New. -/
import Derived.Test.YtdfllobdefodfaaCkApp
namespace Go.Proofs.Ytdfllobdefodfaa
set_option linter.unusedVariables false
set_option linter.unusedSimpArgs false
open Go.RowKit

abbrev alc (L : List Ky) : List Value := L.flatMap (fun y => [Value.int .i64 y.1, Value.int .i64 y.2])
theorem alc_length (L : List Ky) : (alc L).length = L.length * 2 := by
  induction L with
  | nil => rfl
  | cons y r ih => simp only [alc, List.flatMap_cons, List.length_append, List.length_cons, List.length_nil] at ih ⊢; omega
theorem alc_at : ∀ (L : List Ky) (i : Nat) (h : i < L.length), (alc L)[i * 2]? = some (.int .i64 L[i].1) ∧ (alc L)[i * 2 + 1]? = some (.int .i64 L[i].2)
  | [], _, h => by simp at h
  | y :: r, 0, _ => by simp [alc]
  | y :: r, i + 1, h => by
    have := alc_at r i (by simpa using h)
    simp only [alc, List.flatMap_cons] at this ⊢
    rw [show (i + 1) * 2 = i * 2 + 1 + 1 by omega, show i * 2 + 1 + 1 + 1 = (i * 2 + 1) + 1 + 1 by omega]
    simpa using this
theorem alc_append (L M : List Ky) : alc (L ++ M) = alc L ++ alc M := by simp [alc]

/-- The slice at A, of capacity c, owns the alarms L: it lies at block B or behind it. -/
def OA (w : World) (B : Nat) (A : Option Addr) (c : Nat) (L : List Ky) : Prop := w.ownsRow B 68 2 (.slice A L.length c) L.length (alc L)
theorem OA.nil (w : World) (B : Nat) : OA w B none 0 [] := World.ownsRow_nil w B 68 2
theorem al2_info : (Try.prog.info? 68).map (fun i => (i.zero, i.size, i.bytes)) = some (some (.agg #[.int .i64 0, .int .i64 0]), 2, 16) := by kernel_rfl
theorem OA.ke {w w' : World} {B : Nat} {A : Option Addr} {c : Nat} {L : List Ky} {K : List Nat} (h : OA w B A c L) (k : Ke K w w') (hK : ∀ x ∈ K, x < B) : OA w' B A c L := by
  refine ⟨h.1, ?_⟩
  rcases h.2 with hn | ⟨g, cap, cur, hv, hg, hh, r⟩
  · exact .inl hn
  · refine .inr ⟨g, cap, cur, hv, hg, ?_, r⟩
    rw [k.block g (lt_of_block hh) (fun hx => by have := hK g hx; omega)]
    exact hh
theorem OA.cap {w : World} {B : Nat} {A : Option Addr} {c : Nat} {l : List Ky} (h : OA w B A c l) : l.length ≤ c ∧ c ≤ 9223372036854775807 ∧ (A = none → l.length = 0 ∧ c = 0) := by
  rcases h.2 with ⟨hv, h0⟩ | ⟨g, cap, cur, hv, _, _, hn, hm, _⟩
  · injection hv with h1 _ h3
    exact ⟨by omega, by omega, fun _ => ⟨h0, h3⟩⟩
  · injection hv with h1 _ h3
    unfold maxLen at hm
    exact ⟨by omega, by omega, fun e => by rw [e] at h1; cases h1⟩

/-- The slice at A reads as the alarms L, and lies in none of the blocks of K. -/
def Ra (w : World) (K : List Nat) (A : Option Addr) (L : List Ky) : Prop :=
  L = [] ∨ ∃ b o, A = some ⟨b, o, none⟩ ∧ b ∉ K ∧ b < w.heap.size ∧ ∀ i, (h : i < L.length) → w.cell? ⟨b, o + i * 2, none⟩ = some (.int .i64 L[i].1) ∧ w.cell? ⟨b, o + i * 2 + 1, none⟩ = some (.int .i64 L[i].2)
theorem OA.ra {w : World} {B : Nat} {A : Option Addr} {c : Nat} {l : List Ky} {K : List Nat} (h : OA w B A c l) (hK : ∀ x ∈ K, x < B) : Ra w K A l := by
  by_cases h0 : l = []
  · exact .inl h0
  · have hp : 0 < l.length := List.length_pos_iff.2 h0
    obtain ⟨g, cap, hv, hb, hl⟩ := World.ownsRow.form h hp
    injection hv with h1 _ _
    subst h1
    refine .inr ⟨g, 0, rfl, fun hx => by have := hK g hx; omega, hl, fun i hi => ?_⟩
    have e1 := World.ownsRow.cellAt h (i * 2) (by omega)
    have e2 := World.ownsRow.cellAt h (i * 2 + 1) (by omega)
    obtain ⟨a1, a2⟩ := alc_at l i hi
    rw [Nat.zero_add, e1, e2, a1, a2]
    exact ⟨rfl, rfl⟩
theorem Ra.keep {w w' : World} {K L : List Nat} {A : Option Addr} {l : List Ky} (h : Ra w K A l) (k : Ke L w w') (hL : ∀ x ∈ L, x ∈ K) : Ra w' K A l := by
  rcases h with h | ⟨b, o, e, hn, hb, hc⟩
  · exact .inl h
  · refine .inr ⟨b, o, e, hn, Nat.lt_of_lt_of_le hb k.size, fun i hi => ?_⟩
    have hk := k.block b hb (fun hx => hn (hL b hx))
    exact ⟨(World.cell?_of_block (w := w) (a := ⟨b, o + i * 2, none⟩) hk).trans (hc i hi).1, (World.cell?_of_block (w := w) (a := ⟨b, o + i * 2 + 1, none⟩) hk).trans (hc i hi).2⟩
theorem Ra.below {u u' : World} {K : List Nat} {A : Option Addr} {l : List Ky} {B : Nat} (h : Ra u K A l) (k : Below B u u') (hB : u.heap.size ≤ B) : Ra u' K A l := by
  rcases h with h | ⟨b, o, e, hn, hb, hc⟩
  · exact .inl h
  · have hbB := Nat.lt_of_lt_of_le hb hB
    exact .inr ⟨b, o, e, hn, Nat.lt_of_lt_of_le hb k.size, fun i hi => ⟨(k.cell (p := ⟨b, o + i * 2, none⟩) hbB).trans (hc i hi).1, (k.cell (p := ⟨b, o + i * 2 + 1, none⟩) hbB).trans (hc i hi).2⟩⟩
theorem Ra.at_ {w : World} {K : List Nat} {A : Option Addr} {l : List Ky} (h : Ra w K A l) {i : Nat} (hi : i < l.length) : ∃ b o y, A = some ⟨b, o, none⟩ ∧ l[i]? = some y ∧ w.cell? ⟨b, o + i * 2, none⟩ = some (.int .i64 y.1) ∧ w.cell? ⟨b, o + i * 2 + 1, none⟩ = some (.int .i64 y.2) := by
  rcases h with h | ⟨b, o, e, _, _, hc⟩
  · subst h; simp at hi
  · exact ⟨b, o, l[i], e, List.getElem?_eq_getElem hi, (hc i hi).1, (hc i hi).2⟩

/-- One alarm more. -/
theorem wp_app_al {ops : Array Oper} {rest : List Oper} {o : Oper} {a : Act} {Q : Exit → Act → World → Prop} {w : World} (hgd : o.guard = none) (s x : Operand)
    (ho : o.op = .call { callee := .builtin .append, args := #[s, x], argTypes := #[40, 40] }) (B : Nat) (L : List Ky) (A : Option Addr) (n c : Nat) (hs : a.eval s = .slice A n c) (hn : L.length = n) (hown : OA w B A c L)
    (y : Ky) (b : Nat) (hx : a.eval x = .slice (some ⟨b, 0, none⟩) 1 1) (hb : w.cell? ⟨b, 0, none⟩ = some (.int .i64 y.1) ∧ w.cell? ⟨b, 1, none⟩ = some (.int .i64 y.2)) (hlen : n ≤ 1048576) (hbase : B ≤ w.heap.size) (n' : Nat) (hn' : n' = n + 1)
    (h : ∀ A2 c2 w', OA w' B A2 c2 (L ++ [y]) → Below B w w' → wpList Try.prog ops Q rest (a.put o.dst (.slice A2 n' c2)) w') : wpList Try.prog ops Q (o :: rest) a w := by
  obtain ⟨i0, hi1, hz0, hs0, hb0⟩ := info_parts al2_info
  subst hn
  subst hn'
  refine wpList_append_own w hgd s x 40 ho B 68 i0 (.agg #[.int .i64 0, .int .i64 0]) 2 16 Try.underlying40 hi1 hz0 hs0 hb0 rfl (by decide) _ L.length (alc L) hs hown ⟨b, 0, none⟩ 1 1 [.int .i64 y.1, .int .i64 y.2] hx rfl ?_ (by simp [Value.oneCell']) (by unfold maxLen; omega) (by omega) hbase ?_
  · intro j u hu
    rw [add_plain]
    match j, hu with
    | 0, hu => simp at hu; subst hu; exact hb.1
    | 1, hu => simp at hu; subst hu; exact hb.2
    | j + 2, hu => simp at hu
  · intro v' w' hown' hg _
    have hbel : Below B w w' := (Below.refl B w).grown hg hbase (fun k hk => (World.ownsRow.lt hown k hk).1)
    have hp : 0 < L.length + 1 := by omega
    obtain ⟨g, cap, rfl, _, _⟩ := World.ownsRow.form hown' hp
    refine h (some ⟨g, 0, none⟩) cap w' ?_ hbel
    unfold OA
    rw [List.length_append, alc_append]
    exact hown'

theorem out_take {id : Int} {L : List Ky} {i : Nat} {y : Ky} (hy : L[i]? = some y) : outM id (L.take (i + 1)) = outM id (L.take i) ++ (if y.1 = id then [] else [y]) := by
  have hi : i < L.length := (List.getElem?_eq_some_iff.1 hy).1
  have he : L[i] = y := (List.getElem?_eq_some_iff.1 hy).2
  rw [List.take_succ_eq_append_getElem hi, he]
  unfold outM
  rw [List.filter_append]
  congr 1
  by_cases h : y.1 = id
  · simp [h]
  · simp [h]
theorem out_take_le (id : Int) (L : List Ky) (i : Nat) : (outM id (L.take i)).length ≤ i := Nat.le_trans (out_length_le _ _) (by rw [List.length_take]; omega)

set_option maxRecDepth 100000 in
set_option maxHeartbeats 4000000 in
theorem without_ok (A : Option Addr) (n c : Nat) (L : List Ky) (id : Int) (K : List Nat) (u : World) (hn : L.length = n) (hR : Ra u K A L) (hn1 : n ≤ 1024) :
    Calls Try.prog 25 #[.slice A n c, .int .i64 id] u fun e u' => ∃ A2 k c2, e = .returned (.slice A2 k c2) ∧ (outM id L).length = k ∧ OA u' u.heap.size A2 c2 (outM id L) ∧ Below u.heap.size u u' := by
  have HN := Lib.hid hn
  have HR0 := Lib.hid hR
  clear hn hR
  go_enter Try.func25, Try.ntmps25
  go_wp2_with fail
  go_loopw [5, 6] (fun v5 v6 wr => ∃ (i : Nat) (A2 : Option Addr) (k c2 : Nat), i ≤ n ∧ v6 = .int .i64 (i : Int) ∧ v5 = .slice A2 k c2 ∧ Hid ((outM id (L.take i)).length = k ∧ OA wr u.heap.size A2 c2 (outM id (L.take i)) ∧ Below u.heap.size u wr)) (fun _ v6 _ => n - (intOf v6).toNat)
  case atStart => exact ⟨0, none, 0, 0, by omega, rfl, rfl, Lib.hid ⟨rfl, OA.nil _ _, Below.refl _ _⟩⟩
  case round =>
    obtain ⟨i, A2, k, c2, hi, rfl, rfl, HR⟩ := hrel
    by_cases hin : i < n
    · have hi2 : (i : Int) < (n : Int) := by omega
      obtain ⟨b, o, y, rfl, hy, c0, c1⟩ := (HR0.out.below HR.out.2.2 (Nat.le_refl _)).at_ (i := i) (by rw [HN.out]; exact hin)
      have HT := Lib.hid (out_take (id := id) hy)
      have hk4 : k ≤ 1024 := by rw [← HR.out.1]; exact Nat.le_trans (out_take_le _ _ _) (by omega)
      obtain ⟨y1, y2⟩ := y
      clear hy
      dsimp only at c0 c1
      by_cases hid : y1 = id
      · have HE := Lib.hid (show outM id (L.take (i + 1)) = outM id (L.take i) by rw [HT.out, if_pos hid, List.append_nil])
        have hb1 : (y1 != id) = false := by simp [hid]
        have hb2 : (y1 == id) = true := by simp [hid]
        go_wp2_with fail
        go_roundw
        case rel => exact ⟨i + 1, A2, k, c2, by omega, by go_num, rfl, Lib.hid (by rw [HE.out]; exact HR.out)⟩
        case measure => simp [intOf]; omega
      · have HE := Lib.hid (show outM id (L.take (i + 1)) = outM id (L.take i) ++ [(y1, y2)] by rw [HT.out, if_neg hid])
        have hb1 : (y1 != id) = true := by simp [hid]
        have hb2 : (y1 == id) = false := by simp [hid]
        go_wp2_with (first
          | (refine wp_app_al rfl (.tmp 20) (.tmp 25) rfl u.heap.size _ A2 k c2 rfl HR.out.1 (HR.out.2.1.ke (K := []) ((Ke.refl _ _).alloc _) (by simp)) (y1, y2) wr.heap.size rfl ⟨by rw [(Bk.here rfl).cell]; rfl, by rw [(Bk.here rfl).cell]; rfl⟩ (by omega) (by have := HR.out.2.2.size; rw [World.size_alloc]; omega) (k + 1) rfl ?_; intro A3 c3 w3 k1 k2; have H3 := Lib.hid (And.intro k1 k2); clear k1 k2))
        go_roundw
        case rel => exact ⟨i + 1, A3, k + 1, c3, by omega, by go_num, rfl, Lib.hid ⟨by rw [HE.out, List.length_append, HR.out.1]; rfl, by rw [HE.out]; exact H3.out.1, (HR.out.2.2.alloc HR.out.2.2.size _).trans H3.out.2⟩⟩
        case measure => simp [intOf]; omega
    · have hi2 : ¬ (i : Int) < (n : Int) := by omega
      have hd : decide ((i : Int) < (n : Int)) = false := by simp only [decide_eq_false_iff_not]; omega
      have HE := Lib.hid (show L.take i = L from List.take_of_length_le (by rw [HN.out]; omega))
      go_wp2_with fail
      go_ret
      have h := HR.out
      rw [HE.out] at h
      exact ⟨A2, k, c2, rfl, h.1, h.2.1, h.2.2⟩
end Go.Proofs.Ytdfllobdefodfaa
