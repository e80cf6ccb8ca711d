/- CgT0, Cat, CgT1, Build, Hex, ConvB, CgT2: texts of this seat, one behind the other. -/
import Derived.Test.YtcplebbaiambgaaG4
import Derived.Test.YtcplebbaiambgaaG3
import Derived.Test.YtcplebbaiambgaaG5
import Derived.Laws.Concat
import Derived.Test.YtcplebbaiambgaaShelf
import Derived.Test.YtcplebbaiambgaaG1
import Derived.Test.YtcplebbaiambgaaRows
import Derived.Deep.QuietTactic
import Derived.BigQuiet
import Derived.Deep.Cut
import Derived.Deep.CutRange
import Derived.Shelf.Strings.Builder1
import Derived.Test.YtcplebbaiambgaaG2
import Derived.Laws.IdiomStrings
import Derived.Laws.AppendOwn
import Derived.Test.YtcplebbaiambgaaCg3
import Derived.BigRegion
/- How long a configuration's text is: plain mathematics. -/
namespace Go.Proofs.Ytcplebbaiambgaa
set_option linter.unusedVariables false
set_option maxRecDepth 100000
set_option linter.unusedSimpArgs false

theorem dg10_le : ∀ (L n : Nat), n < 10 ^ (L + 1) → (dg 10 n).length ≤ L + 1
  | 0, n, h => by rw [dg_small (by omega)]; simp
  | L + 1, n, h => by
    by_cases h1 : n < 10
    · rw [dg_small h1]; simp
    · have h2 : n / 10 < 10 ^ (L + 1) := by
        rw [Nat.pow_succ] at h
        exact Nat.div_lt_of_lt_mul (by omega)
      have := dg10_le L (n / 10) h2
      rw [dg_big (by omega) h1, List.length_append, List.length_singleton]; omega
theorem dec13 (n : Nat) (h : n ≤ 1099511627776) : (decB n).length ≤ 13 := by
  have := dg10_le 12 n (by omega)
  unfold decB; rw [List.length_map]; omega
theorem slash20 (a : Nat) (b : Int) (h : b.toNat ≤ 1099511627776) : (slashL a b).length ≤ 29 := by
  unfold slashL
  split
  · rw [List.length_append, List.length_cons]
    have := dots_len a
    have := dec13 _ h
    omega
  · simp
theorem name20 {s : ByteArray} (h : nameB s = true) : s.data.toList.length ≤ 20 := by
  unfold nameB at h
  simp only [Bool.and_eq_true, decide_eq_true_eq] at h
  exact h.1.1.1.2
theorem joinL_len (c : UInt8) (k : Nat) : ∀ ws : List (List UInt8), (∀ w ∈ ws, w.length ≤ k) → (joinL c ws).length ≤ (k + 1) * ws.length
  | [], _ => by simp [joinL]
  | [p], h => by rw [joinL]; have := h p (by simp); simp; omega
  | p :: q :: ps, h => by
    have ih := joinL_len c k (q :: ps) (fun w hw => h w (List.mem_cons_of_mem _ hw))
    have := h p (by simp)
    rw [joinL, List.length_append, List.length_cons]
    simp only [List.length_cons] at ih ⊢
    rw [Nat.mul_add, Nat.mul_one]
    omega
theorem line_len {ws : List (List UInt8)} (h : ∀ w ∈ ws, w.length ≤ 64) (hn : ws.length ≤ 5) : (lineT ws).length ≤ 326 := by
  have := joinL_len 32 64 ws h
  unfold lineT
  rw [List.length_append, List.length_singleton]
  omega
theorem rightB_bits {a : Nat} {b : Int} (h : rightB a b = true) : b.toNat ≤ 32 := by
  unfold rightB at h
  simp only [Bool.and_eq_true, decide_eq_true_eq] at h
  omega
theorem cfg_short {c : Cg} (h : cfgB c = true) : (∀ ws ∈ cfgLs c, (lineT ws).length ≤ 326) ∧ (cfgLs c).length ≤ 73 := by
  obtain ⟨t1, t2, t3, t4, h5, h6, h7⟩ := cfgB_parts h
  have tt : ∀ n : Int, timB n = true → (decB n.toNat).length ≤ 64 := fun n hn => by
    have := tim_le hn
    have := dec13 n.toNat (by omega)
    omega
  have hten : ∀ t ∈ c.tens, (∀ ws ∈ tenLs t, (lineT ws).length ≤ 326) ∧ (tenLs t).length ≤ 9 := by
    intro t ht
    obtain ⟨a1, a2, a3, a4, a5, a6, a7⟩ := tenB_parts (h7 t ht)
    have hnm : nameB t.name = true := rise_names _ _ h6 _ (List.mem_map.2 ⟨t, ht, rfl⟩)
    constructor
    · intro ws hws
      rcases List.mem_cons.1 hws with rfl | hws
      · refine line_len (fun w hw => ?_) (by simp [tenW])
        simp only [tenW, List.mem_cons, List.not_mem_nil, or_false] at hw
        rcases hw with rfl | rfl | rfl | rfl
        · decide
        · have := name20 hnm; omega
        · have := quo_le a1; have := dec13 t.names.toNat (by omega); omega
        · have := quo_le a2; have := dec13 t.visitors.toNat (by omega); omega
      · rcases List.mem_append.1 hws with hws | hws
        · obtain ⟨n, hn, rfl⟩ := List.mem_map.1 hws
          refine line_len (fun w hw => ?_) (by simp [netW])
          simp only [netW, List.mem_cons, List.not_mem_nil, or_false] at hw
          rcases hw with rfl | rfl
          · decide
          · have := rightB_bits (a4 n hn)
            have := slash20 n.addr n.bits (by omega); omega
        · obtain ⟨k, hk, rfl⟩ := List.mem_map.1 hws
          have hkb := a7 k hk
          have hkn : nameB k.name = true := rise_names _ _ a6 _ (List.mem_map.2 ⟨k, hk, rfl⟩)
          unfold tokB at hkb
          simp only [Bool.and_eq_true, decide_eq_true_eq] at hkb
          obtain ⟨⟨⟨b1, b2⟩, b3⟩, b4⟩ := hkb
          refine line_len (fun w hw => ?_) (by simp [tokW])
          simp only [tokW, List.mem_cons, List.not_mem_nil, or_false] at hw
          rcases hw with rfl | rfl | rfl | rfl
          · decide
          · have := name20 hkn; omega
          · rw [hexB_len]; have : k.sec.data.toList.length = k.sec.size := rfl; omega
          · have := dec13 k.till.toNat (by omega); omega
    · simp only [tenLs, List.length_cons, List.length_append, List.length_map]; omega
  constructor
  · intro ws hws
    rcases List.mem_cons.1 hws with rfl | hws
    · refine line_len (fun w hw => ?_) (by simp [timesW])
      simp only [timesW, List.mem_cons, List.not_mem_nil, or_false] at hw
      rcases hw with rfl | rfl | rfl | rfl | rfl
      · decide
      · exact tt _ t1
      · exact tt _ t2
      · exact tt _ t3
      · exact tt _ t4
    · obtain ⟨t, ht, hm⟩ := List.mem_flatMap.1 hws
      exact (hten t ht).1 ws hm
  · have hl : ∀ l : List Tn, (∀ t ∈ l, (tenLs t).length ≤ 9) → (l.flatMap tenLs).length ≤ 9 * l.length := by
      intro l
      induction l with
      | nil => intro _; simp
      | cons t r ih =>
        intro hh
        have h1 := hh t (by simp)
        have h2 := ih (fun x hx => hh x (List.mem_cons_of_mem _ hx))
        rw [List.flatMap_cons, List.length_append, List.length_cons]; omega
    have := hl c.tens (fun t ht => (hten t ht).2)
    simp only [cfgLs, List.length_cons]; omega
theorem textT_len : ∀ ls : List (List (List UInt8)), (∀ ws ∈ ls, (lineT ws).length ≤ 326) → (textT ls).length ≤ 326 * ls.length
  | [], _ => by simp [textT]
  | ws :: r, h => by
    have h1 := h ws (by simp)
    have h2 := textT_len r (fun x hx => h x (List.mem_cons_of_mem _ hx))
    simp only [textT, List.flatMap_cons, List.length_append, List.length_cons] at h2 ⊢
    omega
theorem print_len (c : Cg) : (printT c).length ≤ 23798 := by
  unfold printT
  split
  · rename_i h
    obtain ⟨h1, h2⟩ := cfg_short h
    have := textT_len _ h1
    omega
  · simp
theorem textT_cons (ws : List (List UInt8)) (r : List (List (List UInt8))) : textT (ws :: r) = lineT ws ++ textT r := rfl
theorem textT_app (a b : List (List (List UInt8))) : textT (a ++ b) = textT a ++ textT b := List.flatMap_append
theorem joinT_len {ws : List (List UInt8)} {n : Nat} (h : (lineT ws).length ≤ n) : (joinL 32 ws).length + 1 ≤ n := by
  unfold lineT at h
  rw [List.length_append, List.length_singleton] at h
  exact h
theorem join_is (c : UInt8) : ∀ ws : List (List UInt8), Go.Lib.join ws [c] = joinL c ws
  | [] => by simp [Go.Lib.join, List.intercalate, joinL]
  | [p] => by simp [Go.Lib.join, List.intercalate, joinL]
  | p :: q :: ps => by
    have ih := join_is c (q :: ps)
    simp only [Go.Lib.join, List.intercalate, List.intersperse_cons_cons, List.flatten_cons] at ih ⊢
    rw [ih, joinL]; rfl
end Go.Proofs.Ytcplebbaiambgaa

/- One text behind the other, as one operation. Nothing of the program is named here. -/
namespace Go.Proofs.Ytcplebbaiambgaa
set_option linter.unusedVariables false
set_option maxRecDepth 100000
set_option linter.unusedSimpArgs false
open Go.RowKit

theorem bs_cat (a b : List UInt8) : bs a ++ bs b = bs (a ++ b) := ByteArray.mk_append_mk a b
theorem run_cat {P : Program} (w : World) (t : TypeId) (l k : List UInt8) (h : l.length + k.length ≤ 9223372036854775807) : (binOp .add t (.string (bs l)) (.string (bs k))).run P w = .ok (.string (bs (l ++ k))) w := by
  have h1 := run_string_add_sum (P := P) w (bs l) (bs k) (by rw [bs_size, bs_size]; exact h)
  rw [bs_cat] at h1
  simp [binOp, h1]

theorem op_cat {P : Program} {o : Oper} {a : Act} {K : Act → World → Prop} {Q : Exit → Act → World → Prop} {w : World} (x y : Operand) (t t2 : TypeId) (ho : o.op = .binOp .add t x y t2) (l k m : List UInt8) (hx : a.eval x = .string (bs l)) (hy : a.eval y = .string (bs k)) (hlen : l.length + k.length ≤ 9223372036854775807) (hm : l ++ k = m)
    (h : K (a.put o.dst (.string (bs m))) w) : o.wp P a w K Q := by
  subst hm
  have hr := run_cat (P := P) w t l k hlen
  unfold Oper.wp execOp
  simp only [ho, hx, hy, eqGuard, Bool.not_false, if_true, Sem.run_bind, Sem.run_pure, Result.andThen_ok, hr]
  exact h
theorem wpList_cat {P : Program} {ops : Array Oper} {Q : Exit → Act → World → Prop} {a : Act} {w : World} {rest : List Oper} {o : Oper} (hw : Region.wanted o (yielded ops a.tmps) = true) (x y : Operand) (t t2 : TypeId) (ho : o.op = .binOp .add t x y t2) (l k m : List UInt8) (hx : a.eval x = .string (bs l)) (hy : a.eval y = .string (bs k)) (hlen : l.length + k.length ≤ 9223372036854775807) (hm : l ++ k = m)
    (h : wpList P ops Q rest (a.put o.dst (.string (bs m))) w) : wpList P ops Q (o :: rest) a w :=
  wpList_wanted hw fun K hK => op_cat x y t t2 ho l k m hx hy hlen hm (hK _ _ h)
end Go.Proofs.Ytcplebbaiambgaa

/- config.line: its contract. -/
namespace Go.Proofs.Ytcplebbaiambgaa
set_option linter.unusedVariables false
set_option maxRecDepth 100000
set_option linter.unusedSimpArgs false
open Go.RowKit

/-- Words as a row of texts. -/
def wdc (ws : List (List UInt8)) : Array Value := (ws.map fun p => Value.string (bs p)).toArray
end Go.Proofs.Ytcplebbaiambgaa

/- A byte put behind a builder that has been written to, or grown. -/
namespace Go.Proofs.Ytcplebbaiambgaa
set_option linter.unusedVariables false
set_option maxRecDepth 100000
set_option linter.unusedSimpArgs false
open Go.RowKit

/-- The builder at block b holds the bytes l. -/
abbrev Bd (B b : Nat) (l : List UInt8) (w : World) : Prop := Lib.BuilderAt 109 5 B b (.pointer (some ⟨b, 0, none⟩)) (Lib.byteCells l) w

set_option maxRecDepth 100000 in
theorem ccheck_ok (b : Nat) (w : World) (h0 : w.cell? ⟨b, 0, none⟩ = some (.pointer (some ⟨b, 0, none⟩))) :
    Calls Try.prog 68 #[.pointer (some ⟨b, 0, none⟩)] w fun e w' => e = .returned (.tuple #[]) ∧ w' = w := by
  obtain ⟨j, hj, _⟩ := Option.map_eq_some_iff.1 (show (Try.prog.info? 109).map (·.size) = some 2 by kernel_rfl)
  go_enter Try.func68, Try.ntmps68
  go_wp2
  rw [Lib.run_neq_ptr_same w _ Try.underlying107 hj]
  go_wp2
  go_end0
  exact ⟨rfl, rfl⟩

end Go.Proofs.Ytcplebbaiambgaa

/- Hex: bytes in digits. -/
namespace Go.Proofs.Ytcplebbaiambgaa
set_option linter.unusedVariables false
set_option maxRecDepth 100000
set_option linter.unusedSimpArgs false
open Go.RowKit

def digS : ByteArray := ⟨#[48, 49, 50, 51, 52, 53, 54, 55, 56, 57, 97, 98, 99, 100, 101, 102]⟩
theorem digS_at (q : Nat) (h : q < 16) (hs : q < digS.size) : digS[q] = dig q := by
  have : ∀ m : Fin 16, ∀ h : m.val < digS.size, digS[m.val] = dig m.val := by decide
  exact this ⟨q, h⟩ hs
theorem idx_dig (q : Nat) (h : q < 16) (k : IntKind) (u : World) : (Instr.index 9 (.string digS) (.int k (q : Int))).run Try.prog u = .ok (.int .u8 ((dig q).toNat : Int)) u := by
  have hs : digS.size = 16 := rfl
  rw [run_index_string u 9 digS k (q : Int) Try.underlying9, dif_pos (by rw [hs]; omega)]
  have e : digS[(q : Int).toNat]'(by rw [hs]; omega) = dig q := digS_at q h (by rw [hs]; exact h)
  rw [e]

end Go.Proofs.Ytcplebbaiambgaa

/- A text as bytes anew. -/
namespace Go.Proofs.Ytcplebbaiambgaa
set_option linter.unusedVariables false
set_option maxRecDepth 100000
set_option linter.unusedSimpArgs false
open Go.RowKit

theorem conv_back (B : ByteArray) (hB : B.size ≤ 1099511627776) (w : World) : ∃ (cap : Nat) (ob : Obj), (convert 9 94 (.string B)).run Try.prog w = .ok (.slice (some ⟨w.heap.size, 0, none⟩) B.size cap) (w.drew.alloc ob) ∧ B.size ≤ cap ∧ cap ≤ 9223372036854775807 ∧ Rb (w.drew.alloc ob) (w.drew.alloc ob).heap.size (some ⟨w.heap.size, 0, none⟩) B.data.toList := by
  refine ⟨_, _, run_bytes_of_string w 9 94 5 B Try.underlying9 Try.underlying94 Try.underlying5, grownCap_ge _ _ _ _, ?_, ?_⟩
  · have h := grownCap_le_maxLen w B.size 0 5 (by unfold maxLen; omega)
    unfold maxLen at h
    omega
  · refine .inr ⟨w.heap.size, 0, rfl, by show _ < (w.heap.push _).size; rw [Array.size_push]; omega, fun i hi => ?_⟩
    have hi' : i < B.data.size := by simpa using hi
    refine (cell_of_row (w.drew.alloc _) w.heap.size (0 + i) _ _ _ (heap_alloc_new w.drew _)).trans ?_
    rw [Nat.zero_add, bytesRow_at B _ i hi']
    rfl
end Go.Proofs.Ytcplebbaiambgaa

/- config.Print: its contract. (Written by gen_cgt2.py.) -/
namespace Go.Proofs.Ytcplebbaiambgaa
set_option linter.unusedVariables false
set_option maxRecDepth 100000
set_option linter.unusedSimpArgs false
open Go.RowKit

theorem Bx.drew {w u : World} {g : Nat} {t : TypeId} {cs : Array Value} (h : Bx w g t cs u) : Bx w g t cs u.drew := ⟨h.b.drew, h.l.drew⟩
theorem Bx.alloc1 {w u : World} {g : Nat} {t : TypeId} {cs : Array Value} (h : Bx w g t cs u) (o : Obj) : Bx w g t cs (u.alloc o) := h.on ((Below.refl _ _).alloc (Nat.le_refl _) _)
theorem dec_w (a : Int) (h0 : 0 ≤ a) (h1 : a ≤ 1099511627776) (u : World) : Calls Try.prog 62 #[.int .i64 a] u fun e u' => e = .returned (.string (bs (decB a.toNat))) ∧ Below u.heap.size u u' := by
  have := dec_ok a.toNat u (by omega)
  rwa [show ((a.toNat : Nat) : Int) = a by omega] at this
theorem cat_fits {S R X T : List UInt8} (h : S ++ (R ++ X) = T) (hT : T.length ≤ 23798) : S.length + R.length ≤ 9223372036854775807 := by
  have := congrArg List.length h
  rw [List.length_append, List.length_append] at this
  omega
theorem cat_on {S R X T : List UInt8} (h : S ++ (R ++ X) = T) : (S ++ R) ++ X = T := by rw [List.append_assoc]; exact h
theorem line_t {ls : List (List (List UInt8))} {S Y T : List UInt8} {ws : List (List UInt8)} (h : S ++ (textT (ws :: ls) ++ Y) = T) : S ++ (lineT ws ++ (textT ls ++ Y)) = T := by rw [textT_cons, List.append_assoc] at h; exact h

/-- What Print wants of a tenant's lines. -/
structure TnP (t : Tn) : Prop where
  ten : (lineT (tenW t)).length ≤ 326
  nets : ∀ n ∈ t.nets, (lineT (netW n)).length ≤ 326
  toks : ∀ k ∈ t.toks, (lineT (tokW k)).length ≤ 326
  a : 0 ≤ t.names ∧ t.names ≤ 1099511627776
  b : 0 ≤ t.visitors ∧ t.visitors ≤ 1099511627776
  k : ∀ k ∈ t.toks, (0 ≤ k.till ∧ k.till ≤ 1099511627776) ∧ k.sec.size ≤ 1099511627776
theorem tnp_of {c : Cg} (h : cfgB c = true) {t : Tn} (ht : t ∈ c.tens) : TnP t := by
  obtain ⟨h1, _⟩ := cfg_short h
  obtain ⟨_, _, _, _, _, _, h7⟩ := cfgB_parts h
  obtain ⟨a1, a2, a3, a4, a5, a6, a7⟩ := tenB_parts (h7 t ht)
  have hin : ∀ ws ∈ tenLs t, (lineT ws).length ≤ 326 := fun ws hw => h1 ws (List.mem_cons_of_mem _ (List.mem_flatMap.2 ⟨t, ht, hw⟩))
  have q1 := quo_le a1
  have q2 := quo_le a2
  refine ⟨hin _ (by simp [tenLs]), fun n hn => hin _ (List.mem_cons_of_mem _ (List.mem_append.2 (.inl (List.mem_map.2 ⟨n, hn, rfl⟩)))), fun k hk => hin _ (List.mem_cons_of_mem _ (List.mem_append.2 (.inr (List.mem_map.2 ⟨k, hk, rfl⟩)))), by omega, by omega, fun k hk => ?_⟩
  have hkb := a7 k hk
  unfold tokB at hkb
  simp only [Bool.and_eq_true, decide_eq_true_eq] at hkb
  omega

end Go.Proofs.Ytcplebbaiambgaa
