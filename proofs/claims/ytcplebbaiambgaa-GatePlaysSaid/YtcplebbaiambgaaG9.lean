/- Cz1, VtIn, GtK, Syn4, SMath, SMathB, SRef1, RefDec, SRef3, SRef5, SNameM, SRef2, Cz2: texts of this seat, one behind the other. -/
import Derived.Test.YtcplebbaiambgaaG4
import Derived.Test.YtcplebbaiambgaaG7
import Derived.Test.YtcplebbaiambgaaGtH
import Derived.Test.YtcplebbaiambgaaCgG
import Derived.Test.YtcplebbaiambgaaG1
import Derived.Test.YtcplebbaiambgaaShelf
import Derived.Lib.CutLaws
import Derived.BigQuiet
import Derived.Deep.QuietTactic
import Derived.Test.YtcplebbaiambgaaG3
import Derived.Test.YtcplebbaiambgaaRows
import Derived.Test.YtcplebbaiambgaaG2
import Derived.Test.YtcplebbaiambgaaG8
/- The document's own: Find, Token: their contracts. (Written by gen_cgz1.py.) -/
namespace Go.Proofs.Ytcplebbaiambgaa
set_option linter.unusedVariables false
set_option maxRecDepth 100000
set_option linter.unusedSimpArgs false
open Go.RowKit

theorem Ali.size {w : World} {o p : Obj} : ((w.alloc o).alloc p).heap.size = w.heap.size + 2 := by rw [World.size_alloc, World.size_alloc]

set_option maxRecDepth 100000 in
set_option maxHeartbeats 4000000 in
theorem rfind_ok (q0 q1 q2 q3 : Value) (A : Option Addr) (l : List Tv) (n c : Nat) (s : ByteArray) (w : World) (h : RT w A l) (hn : l.length = n) (hf : n ≤ 9223372036854775807) :
    Calls Try.prog 22 #[.agg #[q0, q1, q2, q3, .slice A n c], .string s] w fun e w' => e = .returned (.tuple #[.agg (tcs ((fT s l).getD zeroTv)), .bool (fT s l).isSome]) ∧ Below w.heap.size w w' := by
  have HR := Lib.hid h
  have HN := Lib.hid hn
  obtain ⟨R, hR⟩ : ∃ R, fT s l = R := ⟨_, rfl⟩
  rw [hR]
  have HA := Lib.hid hR
  have HX1 := Lib.hid (show Bx w w.heap.size 24 #[q0, q1, q2, q3, .slice A n c] ((w.alloc (.cells #[q0, q1, q2, q3, .slice A n c] 24)).alloc (.cells #[.string ⟨#[]⟩, .int .i64 0, .int .i64 0, .slice none 0 0, .slice none 0 0] 45)) from (Bx.new w _ _).alloc _)
  have HX2 := Lib.hid (show Bx w (w.heap.size + 1) 45 #[.string ⟨#[]⟩, .int .i64 0, .int .i64 0, .slice none 0 0, .slice none 0 0] ((w.alloc (.cells #[q0, q1, q2, q3, .slice A n c] 24)).alloc (.cells #[.string ⟨#[]⟩, .int .i64 0, .int .i64 0, .slice none 0 0, .slice none 0 0] 45)) from ⟨by have := Bk.new (w.alloc (.cells #[q0, q1, q2, q3, .slice A n c] 24)) 45 #[.string ⟨#[]⟩, .int .i64 0, .int .i64 0, .slice none 0 0, .slice none 0 0]; rwa [World.size_alloc] at this, HX1.out.l⟩)
  clear h hn hR
  go_enter Try.func22, Try.ntmps22
  go_wp2
  obtain ⟨v0, hv0⟩ : ∃ v, (w.alloc (.cells #[q0, q1, q2, q3, .slice A n c] 24)).alloc (.cells #[.string ⟨#[]⟩, .int .i64 0, .int .i64 0, .slice none 0 0, .slice none 0 0] 45) = v := ⟨_, rfl⟩
  rw [hv0] at HX1 HX2
  try rw [hv0]
  clear hv0
  go_loopw [6] (fun v6 wr => ∃ (i : Nat), i ≤ n ∧ v6 = .int .i64 (i : Int) ∧ Hid (R = fT s (l.drop i)) ∧ Hid (Bx w w.heap.size 24 #[q0, q1, q2, q3, .slice A n c] wr) ∧ Hid (Bx w (w.heap.size + 1) 45 #[.string ⟨#[]⟩, .int .i64 0, .int .i64 0, .slice none 0 0, .slice none 0 0] wr)) (fun v6 _ => n - (intOf v6).toNat)
  case atStart => exact ⟨0, by omega, rfl, Lib.hid (by rw [List.drop_zero]; exact HA.out.symm), HX1, HX2⟩
  case round =>
    obtain ⟨i, hi, rfl, HD, HY, HB⟩ := hrel
    have e4 : wr.cell? ⟨w.heap.size, 4, none⟩ = some (.slice A n c) := HY.out.b.cell 4
    have z0 : wr.cell? ⟨w.heap.size + 1, 0, none⟩ = some (.string ⟨#[]⟩) := HB.out.b.cell 0
    have fz0 := HB.out.b.frozen 0
    have z1 : wr.cell? ⟨w.heap.size + 1, 1, none⟩ = some (.int .i64 0) := HB.out.b.cell 1
    have fz1 := HB.out.b.frozen 1
    have z2 : wr.cell? ⟨w.heap.size + 1, 2, none⟩ = some (.int .i64 0) := HB.out.b.cell 2
    have fz2 := HB.out.b.frozen 2
    have z3 : wr.cell? ⟨w.heap.size + 1, 3, none⟩ = some (.slice none 0 0) := HB.out.b.cell 3
    have fz3 := HB.out.b.frozen 3
    have z4 : wr.cell? ⟨w.heap.size + 1, 4, none⟩ = some (.slice none 0 0) := HB.out.b.cell 4
    have fz4 := HB.out.b.frozen 4
    by_cases hi1 : i < n
    · have hi2 : (i : Int) < (n : Int) := by omega
      obtain ⟨b, o, x, rfl, hx, h1, hc⟩ := HR.out.at5 i (by rw [HN.out]; exact hi1)
      obtain ⟨c0, c1, c2, c3, c4⟩ := hc wr HB.out.l
      have HST := Lib.hid (show fT s (l.drop i) = if nmEq (x.t.name) s = true then some x else fT s (l.drop (i + 1)) by
        rw [List.drop_eq_getElem_cons (by rw [HN.out]; exact hi1), (List.getElem?_eq_some_iff.1 hx).2]
        unfold fT
        rw [List.find?_cons]
        cases nmEq (x.t.name) s <;> rfl)
      obtain ⟨⟨xn, xa, xb, xl, xk⟩, An, cn, Ak, ck⟩ := x
      dsimp only at HST c0 c1 c2 c3 c4
      clear hc hx
      cases hq : nmEq xn s with
      | false =>
        rw [hq] at HST
        have hq2 : (xn.toList == s.toList) = false := hq
        clear hq
        go_wp2
        go_roundw
        case rel => exact ⟨i + 1, by omega, by go_num, Lib.hid (by rw [HD.out, HST.out]; rfl), HY, HB⟩
        case measure => simp [intOf]; omega
      | true =>
        rw [hq] at HST
        have hq2 : (xn.toList == s.toList) = true := hq
        clear hq
        go_wp2
        have kU := (((((HB.out.b.set 0 (.string xn)).set 1 (.int .i64 xa)).set 2 (.int .i64 xb)).set 3 (.slice An xl.length cn)).set 4 (.slice Ak xk.length ck))
        simp only [List.setIfInBounds_toArray, List.set_cons_zero, List.set_cons_succ] at kU
        have hlow := HB.out.l
        refine bodyPost_ret (v := .tuple #[.agg #[.string xn, .int .i64 xa, .int .i64 xb, .slice An xl.length cn, .slice Ak xk.length ck], .bool true]) ?_ rfl ⟨?_, ?_⟩
        · have p0 := kU.cell 0; have p1 := kU.cell 1; have p2 := kU.cell 2; have p3 := kU.cell 3; have p4 := kU.cell 4
          simp [results, Try.f22, go_sem, p0, p1, p2, p3, p4]
        · rw [HD.out, HST.out]; rfl
        · exact (((((hlow.setCell (p := ⟨w.heap.size + 1, 0, none⟩) (by show w.heap.size ≤ w.heap.size + 1; omega) _).setCell (p := ⟨w.heap.size + 1, 1, none⟩) (by show w.heap.size ≤ w.heap.size + 1; omega) _).setCell (p := ⟨w.heap.size + 1, 2, none⟩) (by show w.heap.size ≤ w.heap.size + 1; omega) _).setCell (p := ⟨w.heap.size + 1, 3, none⟩) (by show w.heap.size ≤ w.heap.size + 1; omega) _).setCell (p := ⟨w.heap.size + 1, 4, none⟩) (by show w.heap.size ≤ w.heap.size + 1; omega) _)
    · have hi2 : ¬ (i : Int) < (n : Int) := by omega
      have hnone : R = none := by rw [HD.out, List.drop_eq_nil_of_le (by rw [HN.out]; omega)]; rfl
      subst hnone
      go_wp2
      have kU := (((((HB.out.b.set 0 (.string ⟨#[]⟩)).set 1 (.int .i64 0)).set 2 (.int .i64 0)).set 3 (.slice none 0 0)).set 4 (.slice none 0 0))
      simp only [List.setIfInBounds_toArray, List.set_cons_zero, List.set_cons_succ] at kU
      have hlow := HB.out.l
      refine bodyPost_ret (v := .tuple #[.agg #[.string ⟨#[]⟩, .int .i64 0, .int .i64 0, .slice none 0 0, .slice none 0 0], .bool false]) ?_ rfl ⟨?_, ?_⟩
      · have p0 := kU.cell 0; have p1 := kU.cell 1; have p2 := kU.cell 2; have p3 := kU.cell 3; have p4 := kU.cell 4
        simp [results, Try.f22, go_sem, p0, p1, p2, p3, p4]
      · rfl
      · exact (((((hlow.setCell (p := ⟨w.heap.size + 1, 0, none⟩) (by show w.heap.size ≤ w.heap.size + 1; omega) _).setCell (p := ⟨w.heap.size + 1, 1, none⟩) (by show w.heap.size ≤ w.heap.size + 1; omega) _).setCell (p := ⟨w.heap.size + 1, 2, none⟩) (by show w.heap.size ≤ w.heap.size + 1; omega) _).setCell (p := ⟨w.heap.size + 1, 3, none⟩) (by show w.heap.size ≤ w.heap.size + 1; omega) _).setCell (p := ⟨w.heap.size + 1, 4, none⟩) (by show w.heap.size ≤ w.heap.size + 1; omega) _)

end Go.Proofs.Ytcplebbaiambgaa

/- Calls of a vault that came in: a slice of structs of a number, four texts and a number; a text that came in, with its size out of the row's reach. -/
namespace Go.Proofs.Ytcplebbaiambgaa
set_option linter.unusedVariables false
set_option maxRecDepth 100000
set_option linter.unusedSimpArgs false
open Go.ChangeShapes Go.WideShapes Go.ChangeAt Go.RowKit Go.Deep

structure Vo where
  what : Int
  tn : ByteArray
  tk : ByteArray
  nn : ByteArray
  pf : ByteArray
  now : Int
abbrev ocs (x : Vo) : Array Value := #[.int .i64 x.what, .string x.tn, .string x.tk, .string x.nn, .string x.pf, .int .i64 x.now]
def Vo.sm (x : Vo) : Prop := x.tn.size ≤ 140737488355328 ∧ x.tk.size ≤ 140737488355328 ∧ x.nn.size ≤ 140737488355328 ∧ x.pf.size ≤ 140737488355328
instance : Inhabited Vo := ⟨⟨0, ByteArray.empty, ByteArray.empty, ByteArray.empty, ByteArray.empty, 0⟩⟩
structure InOps (W : World) (A : Option Addr) (l : List Vo) (c : Nat) : Prop where
  r : Rw 6 ocs W A l
  f : Fit A l.length c
  n : l.length ≤ 140737488355328
  sm : ∀ x ∈ l, x.sm
theorem InOps.on {w w' : World} {A : Option Addr} {l : List Vo} {c : Nat} (h : InOps w A l c) (hb : Below w.heap.size w w') : InOps w' A l c := ⟨h.r.on hb, h.f, h.n, h.sm⟩
theorem InOps.at6 {w : World} {A : Option Addr} {l : List Vo} {c : Nat} (h : InOps w A l c) (i : Nat) (hi : i < l.length) :
    ∃ b o x, A = some ⟨b, o, none⟩ ∧ l[i]? = some x ∧ x.sm ∧ ∀ u, Below w.heap.size w u → u.cell? ⟨b, o + i * 6, none⟩ = some (.int .i64 x.what) ∧ u.cell? ⟨b, o + i * 6 + 1, none⟩ = some (.string x.tn) ∧ u.cell? ⟨b, o + i * 6 + 2, none⟩ = some (.string x.tk) ∧ u.cell? ⟨b, o + i * 6 + 3, none⟩ = some (.string x.nn) ∧ u.cell? ⟨b, o + i * 6 + 4, none⟩ = some (.string x.pf) ∧ u.cell? ⟨b, o + i * 6 + 5, none⟩ = some (.int .i64 x.now) := by
  obtain ⟨b, o, x, h1, h2, h3⟩ := Rw.at_ h.r i hi
  exact ⟨b, o, x, h1, h2, h.sm x (List.mem_of_getElem? h2), fun u hb => ⟨h3 u hb 0 (by omega), h3 u hb 1 (by omega), h3 u hb 2 (by omega), h3 u hb 3 (by omega), h3 u hb 4 (by omega), h3 u hb 5 (by omega)⟩⟩

theorem sixV {cs : List Value} (h : cs.length = 6) : ∃ a b c d e f, cs = [a, b, c, d, e, f] := by
  match cs, h with
  | [a, b, c, d, e, f], _ => exact ⟨a, b, c, d, e, f, rfl⟩
/-- A text that came in. -/
theorem open_ustr {H : Type} {enc : TypeId × Value → H} {W : World} {r : Reach} {b0 : Nat} {v : Value} {d : DataW H} {p : List MemPlace} {ts : List TypeId} {ds : List (DataW H)} {j : Nat} (hv : Value.okWide Try.prog W r b0 9 v) (h : DataW.Trod enc Try.prog W 0 (fun _ => true) true 9 v d p)
    (hz : (DataW.weightsEach Try.prog ts ds).all (· ≤ reachBytes) = true) (hj : ts[j]? = some 9) (hd : ds[j]? = some d) : ∃ s : ByteArray, v = .string s ∧ s.size ≤ 140737488355328 := by
  obtain ⟨a, rfl, rfl, rfl, w⟩ := Go.ChangeMaps.open_string Try.underlying9 hv h
  refine ⟨a, rfl, ?_⟩
  have := List.all_eq_true.1 hz _ (DataW.weights_mem_each hj hd a.data.toList.length (by simp [DataW.weights]))
  have h1 : a.data.toList.length ≤ reachBytes := by simpa using this
  have h2 : reachBytes < 140737488355328 := reachBytes_lt
  have h3 : a.data.toList.length = a.size := rfl
  omega
end Go.Proofs.Ytcplebbaiambgaa

/- What Take comes to, by cases; what the document's Find tells of a gate's tenants. -/
namespace Go.Proofs.Ytcplebbaiambgaa
set_option linter.unusedVariables false
set_option maxRecDepth 100000
set_option linter.unusedSimpArgs false
open Go.RowKit

theorem tk_yes {o : Option Tn} {U : Us} {s : ByteArray} {k : Int} (hc : cnB k = true) (ho : o.isSome = true) (h : U s k < mxO o k) : tkI o (U s k) k = 0 ∧ tkU o U s k = stU U s k (U s k + 1) := by
  cases o with
  | none => cases ho
  | some t =>
    have h1 : tkI (some t) (U s k) k = 0 := by rw [tkI_some hc, if_neg (by have : U s k < mxT t k := h; omega)]
    exact ⟨h1, by unfold tkU; rw [if_pos h1]⟩
theorem tk_full {o : Option Tn} {U : Us} {s : ByteArray} {k : Int} (hc : cnB k = true) (ho : o.isSome = true) (h : mxO o k ≤ U s k) : tkI o (U s k) k = 112 ∧ tkU o U s k = U := by
  cases o with
  | none => cases ho
  | some t =>
    have h1 : tkI (some t) (U s k) k = 112 := by rw [tkI_some hc, if_pos (show mxT t k ≤ U s k from h)]
    exact ⟨h1, by unfold tkU; rw [h1, if_neg (by decide)]⟩
theorem tk_none {o : Option Tn} {U : Us} {s : ByteArray} {k : Int} (hc : cnB k = true) (ho : o.isSome = false) : tkI o (U s k) k = 3 ∧ tkU o U s k = U := by
  cases o with
  | some t => cases ho
  | none =>
    have h1 : tkI none (U s k) k = 3 := tkI_none hc
    exact ⟨h1, by unfold tkU; rw [h1, if_neg (by decide)]⟩
theorem tk_not {o : Option Tn} {U : Us} {s : ByteArray} {k : Int} (hc : cnB k = false) : tkI o (U s k) k = 1 ∧ tkU o U s k = U := by
  have h1 : tkI o (U s k) k = 1 := tkI_not hc
  exact ⟨h1, by unfold tkU; rw [h1, if_neg (by decide)]⟩
theorem gcfg_ne : (24 : TypeId) ≠ 67 := by decide
theorem mxT_1 (t : Tn) : mxT t 1 = t.names.toNat := by unfold mxT; rw [if_pos rfl]
theorem mxT_2 (t : Tn) : mxT t 2 = t.visitors.toNat := by unfold mxT; rw [if_neg (by decide), if_pos rfl]
/-- What Find tells: the tenant's numbers as naturals. -/
theorem find_num {ts : List Tv} {tn : List Tn} (hT : ∀ s, (fT s ts).map (·.t) = gtF tn s) (hte : ∀ t ∈ tn, tenB t = true) (s : ByteArray) :
    ((fT s ts).getD zeroTv).t.names = (mxO (gtF tn s) 1 : Int) ∧ ((fT s ts).getD zeroTv).t.visitors = (mxO (gtF tn s) 2 : Int) ∧ (fT s ts).isSome = (gtF tn s).isSome ∧ mxO (gtF tn s) 1 ≤ 8 ∧ mxO (gtF tn s) 2 ≤ 8 ∧ (∀ k, (gtF tn s).isSome = false → mxO (gtF tn s) k = 0) := by
  have h := hT s
  cases hq : fT s ts with
  | none =>
    rw [hq] at h
    rw [← h]
    exact ⟨rfl, rfl, rfl, by decide, by decide, fun _ _ => rfl⟩
  | some y =>
    rw [hq] at h
    rw [← h]
    have h1 := hte y.t (gtF_name h.symm).2
    have q1 := quo_le (tenB_parts h1).1
    have q2 := quo_le (tenB_parts h1).2.1
    refine ⟨?_, ?_, rfl, ?_, ?_, fun k hk => by cases hk⟩
    · show y.t.names = (mxT y.t 1 : Int)
      rw [mxT_1]; omega
    · show y.t.visitors = (mxT y.t 2 : Int)
      rw [mxT_2]; omega
    · show mxT y.t 1 ≤ 8
      rw [mxT_1]; omega
    · show mxT y.t 2 ≤ 8
      rw [mxT_2]; omega
end Go.Proofs.Ytcplebbaiambgaa

/- strings.Cut at a mark of one byte; syntax.pieces: what it makes. -/
namespace Go.Proofs.Ytcplebbaiambgaa
set_option linter.unusedVariables false
set_option maxRecDepth 100000
set_option linter.unusedSimpArgs false
open Go.RowKit

theorem ex_take (s : ByteArray) (i : Nat) : s.extract 0 i = bs (s.data.toList.take i) := by
  rw [Go.Lib.extract_eq]; simp [bs]
theorem ex_drop (s : ByteArray) (i : Nat) (h : i ≤ s.size) : s.extract i s.size = bs (s.data.toList.drop i) := by
  rw [Go.Lib.extract_eq]
  have ht : List.take (s.size - i) (List.drop i s.data.toList) = List.drop i s.data.toList :=
    List.take_of_length_le (by rw [List.length_drop]; exact Nat.le_refl _)
  rw [ht]; rfl

def cutV (c : UInt8) (s : ByteArray) : Value := .tuple #[.string (bs (cutL c s.data.toList).1), .string (bs (cutL c s.data.toList).2.1), .bool (cutL c s.data.toList).2.2]

end Go.Proofs.Ytcplebbaiambgaa

/- Nets within nets: plain mathematics. -/
namespace Go.Proofs.Ytcplebbaiambgaa
set_option linter.unusedVariables false
set_option maxRecDepth 100000
set_option linter.unusedSimpArgs false

theorem first_lt (n a : Nat) (ha : a < 4294967296) : firstN n a < 4294967296 := Nat.lt_of_le_of_lt (Nat.div_mul_le_self _ _) ha
theorem first_first (m M a : Nat) (h : m ≤ M) (hM : M ≤ 32) : firstN m (firstN M a) = firstN m a := by
  unfold firstN
  obtain ⟨d, hd⟩ : ∃ d, 32 - m = (32 - M) + d := ⟨M - m, by omega⟩
  rw [hd, Nat.pow_add, ← Nat.div_div_eq_div_mul, ← Nat.div_div_eq_div_mul, Nat.mul_div_cancel _ (Nat.pow_pos (by omega))]
theorem first_idem (n a : Nat) (h : n ≤ 32) : firstN n (firstN n a) = firstN n a := first_first n n a (Nat.le_refl _) h
theorem right_first (n a : Nat) (h : n ≤ 32) : rightB (firstN n a) n = true := by
  unfold rightB
  rw [show ((n : Nat) : Int).toNat = n by simp, first_idem n a h]
  have e1 : decide ((0 : Int) ≤ (n : Int)) = true := by simp
  have e2 : decide ((n : Int) ≤ 32) = true := by simp; omega
  rw [e1, e2]; simp
theorem in_first (n p z : Nat) (h : n ≤ 32) : inB (firstN n p) n z = decide (firstN n z = firstN n p) := by
  unfold inB
  rw [right_first n p h]
  simp

theorem in_self (n p : Nat) (h : n ≤ 32) : inB (firstN n p) n (firstN n p) = true := by
  rw [in_first n p _ h, first_idem n p h]; simp
theorem nets_apart (m M p q z : Nat) (h : m ≤ M) (hM : M ≤ 32) (h1 : inB (firstN m p) m z = true) (h2 : inB (firstN M q) M z = true) : inB (firstN m p) m (firstN M q) = true := by
  rw [in_first m p _ (by omega)] at h1 ⊢
  rw [in_first M q _ hM] at h2
  simp only [decide_eq_true_eq] at h1 h2 ⊢
  rw [← h2, first_first m M z h hM, h1]
theorem nets_within (m M p q z : Nat) (h : m ≤ M) (hM : M ≤ 32) (h1 : inB (firstN m p) m (firstN M q) = true) (h2 : inB (firstN M q) M z = true) : inB (firstN m p) m z = true := by
  rw [in_first m p _ (by omega)] at h1 ⊢
  rw [in_first M q _ hM] at h2
  simp only [decide_eq_true_eq] at h1 h2 ⊢
  rw [← h1, ← h2, first_first m M z h hM]
end Go.Proofs.Ytcplebbaiambgaa

/- A net's halves; an address with a bit turned: plain mathematics. -/
namespace Go.Proofs.Ytcplebbaiambgaa
set_option linter.unusedVariables false
set_option maxRecDepth 100000
set_option linter.unusedSimpArgs false

theorem first_eq (n x y : Nat) : firstN n x = firstN n y ↔ x / 2 ^ (32 - n) = y / 2 ^ (32 - n) := by
  unfold firstN
  constructor
  · intro h; exact Nat.eq_of_mul_eq_mul_right (Nat.pow_pos (by omega)) h
  · intro h; rw [h]
theorem xor_lt (a k : Nat) (ha : a < 4294967296) (hk : k < 32) : a ^^^ 2 ^ (31 - k) < 4294967296 := by
  have h1 : 2 ^ (31 - k) < 2 ^ 32 := Nat.pow_lt_pow_right (by omega) (by omega)
  exact Nat.xor_lt_two_pow (show a < 2 ^ 32 from ha) h1
theorem xor_div (a b d : Nat) : (a ^^^ b) / 2 ^ d = (a / 2 ^ d) ^^^ (b / 2 ^ d) := by
  rw [← Nat.shiftRight_eq_div_pow, Nat.shiftRight_xor_distrib, Nat.shiftRight_eq_div_pow, Nat.shiftRight_eq_div_pow]
theorem in_turned (n k a : Nat) (hn : n ≤ 32) (hk : k < n) : inB (firstN n a) n (a ^^^ 2 ^ (31 - k)) = false := by
  rw [in_first n a _ hn]
  apply decide_eq_false
  rw [first_eq, xor_div]
  have e : 2 ^ (31 - k) / 2 ^ (32 - n) = 2 ^ (31 - k - (32 - n)) := Nat.pow_div (by omega) (by omega)
  rw [e]
  intro h
  have h2 := congrArg (fun x => (a / 2 ^ (32 - n)) ^^^ x) h
  simp only [← Nat.xor_assoc, Nat.xor_self, Nat.zero_xor] at h2
  have : 0 < 2 ^ (31 - k - (32 - n)) := Nat.pow_pos (by omega)
  omega
theorem in_fewer (k a : Nat) (hk : k < 32) : inB (firstN k a) k (a ^^^ 2 ^ (31 - k)) = true := by
  rw [in_first k a _ (by omega)]
  apply decide_eq_true
  rw [first_eq, xor_div]
  have e : 2 ^ (31 - k) / 2 ^ (32 - k) = 0 := Nat.div_eq_of_lt (Nat.pow_lt_pow_right (by omega) (by omega))
  rw [e, Nat.xor_zero]
theorem in_own (n a : Nat) (hn : n ≤ 32) : inB (firstN n a) n a = true := by
  rw [in_first n a a hn]; simp
theorem first_none (a : Nat) (ha : a < 4294967296) : firstN 0 a = 0 := by
  unfold firstN
  rw [Nat.div_eq_of_lt (by show a < 2 ^ 32; exact ha), Nat.zero_mul]
theorem in_all (a : Nat) (ha : a < 4294967296) : inB 0 0 a = true := by
  have := in_first 0 0 a (by omega)
  rw [first_none 0 (by omega), first_none a ha] at this
  exact this.trans (by simp)

/-! The halves of a net. -/
theorem half_low (n a b : Nat) (hn : n < 32) : inB (firstN n a) (n + 1 : Nat) b = decide (b / 2 ^ (31 - n) = a / 2 ^ (32 - n) * 2) := by
  have e1 : firstN n a = firstN (n + 1) (firstN n a) := by
    unfold firstN
    have e : 32 - n = (32 - (n + 1)) + 1 := by omega
    rw [e, Nat.pow_succ, ← Nat.mul_assoc, Nat.mul_right_comm, Nat.mul_div_cancel _ (Nat.pow_pos (by omega))]
  rw [e1, in_first (n + 1) _ b (by omega), decide_eq_decide, first_eq, show 32 - (n + 1) = 31 - n by omega]
  have e2 : firstN n a / 2 ^ (31 - n) = a / 2 ^ (32 - n) * 2 := by
    unfold firstN
    rw [show (2 : Nat) ^ (32 - n) = 2 ^ (31 - n) * 2 by rw [← Nat.pow_succ, show (31 - n).succ = 32 - n by omega], Nat.mul_comm (2 ^ (31 - n)) 2, ← Nat.mul_assoc, Nat.mul_div_cancel _ (Nat.pow_pos (by omega))]
  rw [e2]
theorem half_or (n a : Nat) (hn : n < 32) : firstN n a ||| 2 ^ (31 - n) = (a / 2 ^ (32 - n) * 2 + 1) * 2 ^ (31 - n) := by
  have e : firstN n a = (a / 2 ^ (32 - n)) <<< (31 - n + 1) := by
    unfold firstN
    rw [Nat.shiftLeft_eq, show 31 - n + 1 = 32 - n by omega]
  have h := Nat.shiftLeft_add_eq_or_of_lt (a := a / 2 ^ (32 - n)) (i := 31 - n + 1) (b := 2 ^ (31 - n)) (Nat.pow_lt_pow_right (by omega) (by omega))
  rw [e, ← h, Nat.shiftLeft_eq, Nat.pow_succ, Nat.add_mul, Nat.one_mul, Nat.mul_comm (2 ^ (31 - n)) 2, ← Nat.mul_assoc]
theorem half_high (n a b : Nat) (hn : n < 32) : inB (firstN n a ||| 2 ^ (31 - n)) (n + 1 : Nat) b = decide (b / 2 ^ (31 - n) = a / 2 ^ (32 - n) * 2 + 1) := by
  rw [half_or n a hn]
  have e1 : (a / 2 ^ (32 - n) * 2 + 1) * 2 ^ (31 - n) = firstN (n + 1) ((a / 2 ^ (32 - n) * 2 + 1) * 2 ^ (31 - n)) := by
    unfold firstN
    rw [show 32 - (n + 1) = 31 - n by omega, Nat.mul_div_cancel _ (Nat.pow_pos (by omega))]
  rw [e1, in_first (n + 1) _ b (by omega), decide_eq_decide, first_eq, show 32 - (n + 1) = 31 - n by omega, Nat.mul_div_cancel _ (Nat.pow_pos (by omega))]
theorem half_whole (n a b : Nat) (hn : n < 32) : inB (firstN n a) n b = (decide (b / 2 ^ (31 - n) = a / 2 ^ (32 - n) * 2) || decide (b / 2 ^ (31 - n) = a / 2 ^ (32 - n) * 2 + 1)) := by
  rw [in_first n a b (by omega)]
  have e : b / 2 ^ (32 - n) = b / 2 ^ (31 - n) / 2 := by
    rw [Nat.div_div_eq_div_mul, ← Nat.pow_succ, show (31 - n).succ = 32 - n by omega]
  rw [Bool.eq_iff_iff, decide_eq_true_iff, first_eq, e, Bool.or_eq_true, decide_eq_true_iff, decide_eq_true_iff]
  omega
theorem half_one (n a : Nat) (hn : n < 32) : inB (firstN n a) n (firstN n a) = true := in_self n a (by omega)
theorem half_two (n a : Nat) (hn : n < 32) : inB (firstN n a) n (firstN n a ||| 2 ^ (31 - n)) = true := by
  rw [half_whole n a _ hn, half_or n a hn, Nat.mul_div_cancel _ (Nat.pow_pos (by omega))]
  simp
theorem half_lt (n a : Nat) (hn : n < 32) (ha : a < 4294967296) : firstN n a ||| 2 ^ (31 - n) < 4294967296 := by
  have h1 : firstN n a < 2 ^ 32 := first_lt n a ha
  exact Nat.or_lt_two_pow h1 (Nat.pow_lt_pow_right (by omega) (by omega))
end Go.Proofs.Ytcplebbaiambgaa

/- The document's own: head, Right, cut: their contracts. -/
namespace Go.Proofs.Ytcplebbaiambgaa
set_option linter.unusedVariables false
set_option maxRecDepth 100000
set_option linter.unusedSimpArgs false
open Go.RowKit

set_option maxHeartbeats 400000 in
theorem rhead_ok (bits a : Nat) (w : World) (hb : bits ≤ 32) (ha : a < 4294967296) :
    Calls Try.prog 46 #[.int .u32 a, .int .i64 bits] w fun e w' => e = .returned (.int .u32 (firstN bits a)) ∧ w = w' := by
  by_cases h0 : bits = 0
  · subst h0
    rw [first_none a ha]
    go_enter Try.func46, Try.ntmps46
    go_wp2
    go_ret
    exact ⟨rfl, rfl⟩
  · have h1 : ((bits : Int) == 0) = false := by rw [beq_eq_false_iff_ne]; omega
    go_enter Try.func46, Try.ntmps46
    go_wp2
    rw [first_cast bits a ha]
    go_ret
    exact ⟨rfl, rfl⟩
theorem rhead_q (bits a : Nat) (w : World) (hb : bits ≤ 32) (ha : a < 4294967296) :
    Calls Try.prog 46 #[.int .u32 a, .int .i64 bits] w fun e w' => e = .returned (.int .u32 (firstN bits a)) ∧ ∃ m, w' = w.drewN m :=
  (rhead_ok bits a w hb ha).mono fun e w' ⟨h1, h2⟩ => ⟨h1, 0, h2.symm⟩

set_option maxHeartbeats 1000000 in
theorem rright_ok (a : Nat) (bits : Int) (w : World) (ha : a < 4294967296) :
    Calls Try.prog 45 #[.agg #[.int .u32 a, .int .i64 bits]] w fun e w' => e = .returned (.bool (rightB a bits)) ∧ Below w.heap.size w w' := by
  have hbel : ∀ n, Below w.heap.size w ((w.alloc (.cells #[.int .u32 a, .int .i64 bits] 51)).drewN n) := fun n => below_drewN ((Below.refl _ _).alloc (Nat.le_refl _) _) n
  have HB := Lib.hid hbel
  clear hbel
  by_cases h0 : 0 ≤ bits
  · by_cases h1 : bits ≤ 32
    · obtain ⟨b, rfl⟩ := Int.eq_ofNat_of_zero_le h0
      have hb : b ≤ 32 := by omega
      have hr : rightB a b = decide (firstN b a = a) := by
        have e1 : decide ((0 : Int) ≤ (b : Int)) = true := by simp
        have e2 : decide ((b : Int) ≤ 32) = true := by simp; omega
        unfold rightB
        rw [e1, e2]; simp
      rw [hr]
      clear hr h0
      have hd1 : decide ((0 : Int) ≤ (b : Int)) = true := by simp
      have hd2 : decide ((b : Int) ≤ 32) = true := by simp; omega
      have HE := Lib.hid (cast_eq (firstN b a) a)
      go_enter Try.func45, Try.ntmps45
      go_wp2
      go_quiet (((go_at_call 46; with_reducible exact Calls.quiet_of (rhead_q b a _ hb ha))))
      go_wp2
      go_ret
      exact ⟨by rw [← HE.out]; rfl, HB.out _⟩
    · have hr : rightB a bits = false := by simp [rightB, h1]
      rw [hr]
      clear hr
      have hd1 : decide ((0 : Int) ≤ bits) = true := by simpa using h0
      have hd2 : decide (bits ≤ 32) = false := by simpa using h1
      go_enter Try.func45, Try.ntmps45
      go_wp2
      go_quiet (fail)
      go_wp2
      go_ret
      exact ⟨rfl, HB.out _⟩
  · have hr : rightB a bits = false := by simp [rightB, h0]
    rw [hr]
    clear hr
    have hd1 : decide ((0 : Int) ≤ bits) = false := by simpa using h0
    go_enter Try.func45, Try.ntmps45
    go_wp2
    go_quiet (fail)
    go_wp2
    go_ret
    exact ⟨rfl, HB.out _⟩

theorem cut_step (c : UInt8) (l : List UInt8) (i : Nat) (h : i < l.length) (x : UInt8) (hx : l.getD i 0 = x) : l.drop i = x :: l.drop (i + 1) ∧ l.take (i + 1) = l.take i ++ [x] := by
  have e : l[i] = x := by rw [← hx, List.getD, List.getElem?_eq_getElem h]; rfl
  exact ⟨by rw [List.drop_eq_getElem_cons h, e], by rw [List.take_succ_eq_append_getElem h, e]⟩

end Go.Proofs.Ytcplebbaiambgaa

/- The document's answers for numbers: Decimal: its contract. -/
namespace Go.Proofs.Ytcplebbaiambgaa
set_option linter.unusedVariables false
set_option maxRecDepth 100000
set_option linter.unusedSimpArgs false
open Go.RowKit

/-- The decimals of a number; none of 0. -/
def mk10 (r : Nat) : List UInt8 := if r = 0 then [] else decB r
theorem decB_mk (n : Nat) : decB n = mk10 (n / 10) ++ [UInt8.ofNat (n % 10 + 48)] := by
  unfold mk10 decB
  by_cases h : n < 10
  · rw [dg_small h, Nat.div_eq_of_lt h, Nat.mod_eq_of_lt h]; rfl
  · have : n / 10 ≠ 0 := by have := Nat.div_pos (by omega : 10 ≤ n) (by omega); omega
    rw [dg_big (by omega) h, if_neg this, List.map_append]; rfl

end Go.Proofs.Ytcplebbaiambgaa

/- The document's own: Dots: its contract. (Written by gen_sref.py.) -/
namespace Go.Proofs.Ytcplebbaiambgaa
set_option linter.unusedVariables false
set_option maxRecDepth 100000
set_option linter.unusedSimpArgs false
open Go.RowKit

def preD (a k : Nat) : List UInt8 := (List.range k).flatMap fun j => decB (qB a j) ++ (if j < 3 then [46] else [])
theorem preD_succ (a k : Nat) : preD a (k + 1) = preD a k ++ (decB (qB a k) ++ (if k < 3 then [46] else [])) := by
  unfold preD
  rw [List.range_succ, List.flatMap_append]
  simp
theorem preD_all (a : Nat) (ha : a < 4294967296) : preD a 4 = dotsB a := by
  rw [dotsB_q a ha]
  simp [preD, List.range, List.range.loop, joinL]
def ik : Nat → Int
  | 0 => 3
  | 1 => 2
  | 2 => 1
  | 3 => 0
  | _ => -1

end Go.Proofs.Ytcplebbaiambgaa

/- The document's own: In: its contract. (Written by gen_sref.py.) -/
namespace Go.Proofs.Ytcplebbaiambgaa
set_option linter.unusedVariables false
set_option maxRecDepth 100000
set_option linter.unusedSimpArgs false
open Go.RowKit

set_option maxHeartbeats 2000000 in
theorem rin_ok (n : Nat) (bits : Int) (a : Nat) (w : World) (hn : n < 4294967296) (ha : a < 4294967296) :
    Calls Try.prog 31 #[.agg #[.int .u32 n, .int .i64 bits], .int .u32 a] w fun e w' => e = .returned (.bool (inB n bits a)) ∧ Below w.heap.size w w' := by
  have HS := Lib.hid (NetAt.new w n bits 51).draw
  by_cases hr : rightB n bits = true
  · have hb : 0 ≤ bits ∧ bits ≤ 32 := by
      unfold rightB at hr
      simp only [Bool.and_eq_true, decide_eq_true_eq] at hr
      exact hr.1
    obtain ⟨b, rfl⟩ := Int.eq_ofNat_of_zero_le hb.1
    have hb2 : b ≤ 32 := by omega
    have HR := Lib.hid hr
    have HI := Lib.hid (show inB n b a = decide (firstN b a = n) by unfold inB; rw [hr]; simp)
    have HE := Lib.hid (cast_eq (firstN b a) n)
    clear hr hb
    go_enter Try.func31, Try.ntmps31
    go_wp2_with fail
    try simp only [List.cons_append, List.nil_append]
    refine wp_region_held_drew (S := fun u => NetAt w.heap.size w w.heap.size n b u) (by kernel_rfl) (HS.out) (fun hHeld => ?_)
    refine take_at (some 5) (i := 0) (v := ?_) rfl rfl (by kernel_rfl) (by kernel_rfl) (by kernel_rfl) (fun _ _ _ h => h) (Or.inl ⟨by kernel_rfl, ?_⟩) hHeld ?_
    rotate_left
    · intro wz hSw; have hc0 := hSw.c0; have hc1 := hSw.c1; go_simp; try (with_reducible rfl)
    try simp only [Act.put, List.setIfInBounds_toArray, List.set_cons_zero, List.set_cons_succ, List.getElem_toArray, List.getElem_cons_succ, List.getElem_cons_zero]
    refine wpAnyH_ready (rs := [1]) (by kernel_rfl) (by simp) (AllReadyH.cons rfl (fun K hK => ?_) AllReadyH.nil)
    rw [if_pos (by kernel_rfl)]
    go_simp
    refine (rright_ok n b _ hn).mono ?_
    rintro e u ⟨rfl, hbu⟩
    rw [HR.out]
    try dsimp only
    refine hK.out _ _ (hHeld.on hHeld.b.size hbu) (fun hHeld => ?_)
    try simp only [Act.put, List.setIfInBounds_toArray, List.set_cons_zero, List.set_cons_succ, List.getElem_toArray, List.getElem_cons_succ, List.getElem_cons_zero]
    refine take_at (some 7) (i := 2) (v := ?_) rfl rfl (by kernel_rfl) (by kernel_rfl) (by kernel_rfl) (fun _ _ _ h => h) (Or.inl ⟨by kernel_rfl, ?_⟩) hHeld ?_
    rotate_left
    · intro wz hSw; have hc0 := hSw.c0; have hc1 := hSw.c1; go_simp; try (with_reducible rfl)
    try simp only [Act.put, List.setIfInBounds_toArray, List.set_cons_zero, List.set_cons_succ, List.getElem_toArray, List.getElem_cons_succ, List.getElem_cons_zero]
    refine take_at (some 8) (i := 3) (v := ?_) rfl rfl (by kernel_rfl) (by kernel_rfl) (by kernel_rfl) (fun _ _ _ h => h) (Or.inl ⟨by kernel_rfl, ?_⟩) hHeld ?_
    rotate_left
    · intro wz hSw; have hc0 := hSw.c0; have hc1 := hSw.c1; go_simp; try (with_reducible rfl)
    try simp only [Act.put, List.setIfInBounds_toArray, List.set_cons_zero, List.set_cons_succ, List.getElem_toArray, List.getElem_cons_succ, List.getElem_cons_zero]
    refine take_at (some 9) (i := 4) (v := ?_) rfl rfl (by kernel_rfl) (by kernel_rfl) (by kernel_rfl) (fun _ _ _ h => h) (Or.inl ⟨by kernel_rfl, ?_⟩) hHeld ?_
    rotate_left
    · intro wz hSw; have hc0 := hSw.c0; have hc1 := hSw.c1; go_simp; try (with_reducible rfl)
    try simp only [Act.put, List.setIfInBounds_toArray, List.set_cons_zero, List.set_cons_succ, List.getElem_toArray, List.getElem_cons_succ, List.getElem_cons_zero]
    refine take_at (some 10) (i := 5) (v := ?_) rfl rfl (by kernel_rfl) (by kernel_rfl) (by kernel_rfl) (fun _ _ _ h => h) (Or.inl ⟨by kernel_rfl, ?_⟩) hHeld ?_
    rotate_left
    · intro wz hSw; have hc0 := hSw.c0; have hc1 := hSw.c1; go_simp; try (with_reducible rfl)
    try simp only [Act.put, List.setIfInBounds_toArray, List.set_cons_zero, List.set_cons_succ, List.getElem_toArray, List.getElem_cons_succ, List.getElem_cons_zero]
    refine take_at (some 12) (i := 7) (v := ?_) rfl rfl (by kernel_rfl) (by kernel_rfl) (by kernel_rfl) (fun _ _ _ h => h) (Or.inl ⟨by kernel_rfl, ?_⟩) hHeld ?_
    rotate_left
    · intro wz hSw; have hc0 := hSw.c0; have hc1 := hSw.c1; go_simp; try (with_reducible rfl)
    try simp only [Act.put, List.setIfInBounds_toArray, List.set_cons_zero, List.set_cons_succ, List.getElem_toArray, List.getElem_cons_succ, List.getElem_cons_zero]
    refine take_at (some 13) (i := 8) (v := ?_) rfl rfl (by kernel_rfl) (by kernel_rfl) (by kernel_rfl) (fun _ _ _ h => h) (Or.inl ⟨by kernel_rfl, ?_⟩) hHeld ?_
    rotate_left
    · intro wz hSw; have hc0 := hSw.c0; have hc1 := hSw.c1; go_simp; try (with_reducible rfl)
    try simp only [Act.put, List.setIfInBounds_toArray, List.set_cons_zero, List.set_cons_succ, List.getElem_toArray, List.getElem_cons_succ, List.getElem_cons_zero]
    refine wpAnyH_ready (rs := [6]) (by kernel_rfl) (by simp) (AllReadyH.cons rfl (fun K hK => ?_) AllReadyH.nil)
    rw [if_pos (by kernel_rfl)]
    go_simp
    refine (rhead_ok b a _ hb2 ha).mono ?_
    rintro e u2 ⟨rfl, rfl⟩
    try dsimp only
    refine hK.out _ _ (hHeld) (fun hHeld => ?_)
    try simp only [Act.put, List.setIfInBounds_toArray, List.set_cons_zero, List.set_cons_succ, List.getElem_toArray, List.getElem_cons_succ, List.getElem_cons_zero]
    refine take_at (some 14) (i := 9) (v := ?_) rfl rfl (by kernel_rfl) (by kernel_rfl) (by kernel_rfl) (fun _ _ _ h => h) (Or.inl ⟨by kernel_rfl, ?_⟩) hHeld ?_
    rotate_left
    · intro wz hSw; have hc0 := hSw.c0; have hc1 := hSw.c1; go_simp; try (with_reducible rfl)
    try simp only [Act.put, List.setIfInBounds_toArray, List.set_cons_zero, List.set_cons_succ, List.getElem_toArray, List.getElem_cons_succ, List.getElem_cons_zero]
    refine take_at (some 15) (i := 10) (v := ?_) rfl rfl (by kernel_rfl) (by kernel_rfl) (by kernel_rfl) (fun _ _ _ h => h) (Or.inl ⟨by kernel_rfl, ?_⟩) hHeld ?_
    rotate_left
    · intro wz hSw; have hc0 := hSw.c0; have hc1 := hSw.c1; go_simp; try (with_reducible rfl)
    try simp only [Act.put, List.setIfInBounds_toArray, List.set_cons_zero, List.set_cons_succ, List.getElem_toArray, List.getElem_cons_succ, List.getElem_cons_zero]
    refine take_at (some 4) (i := 11) (v := ?_) rfl rfl (by kernel_rfl) (by kernel_rfl) (by kernel_rfl) (fun _ _ _ h => h) (Or.inl ⟨by kernel_rfl, ?_⟩) hHeld ?_
    rotate_left
    · intro wz hSw; have hc0 := hSw.c0; have hc1 := hSw.c1; go_simp; try (with_reducible rfl)
    try simp only [Act.put, List.setIfInBounds_toArray, List.set_cons_zero, List.set_cons_succ, List.getElem_toArray, List.getElem_cons_succ, List.getElem_cons_zero]
    refine wpAnyH_done (by kernel_rfl) ?_ _
    go_wp2
    go_ret
    exact ⟨by rw [HI.out, ← HE.out]; rfl, hHeld.b⟩
  · have hr2 : rightB n bits = false := by simpa using hr
    have HR := Lib.hid hr2
    have HI := Lib.hid (show inB n bits a = false by unfold inB; rw [hr2]; rfl)
    clear hr hr2
    go_enter Try.func31, Try.ntmps31
    go_wp2_with fail
    try simp only [List.cons_append, List.nil_append]
    refine wp_region_held_drew (S := fun u => NetAt w.heap.size w w.heap.size n bits u) (by kernel_rfl) (HS.out) (fun hHeld => ?_)
    refine take_at (some 5) (i := 0) (v := ?_) rfl rfl (by kernel_rfl) (by kernel_rfl) (by kernel_rfl) (fun _ _ _ h => h) (Or.inl ⟨by kernel_rfl, ?_⟩) hHeld ?_
    rotate_left
    · intro wz hSw; have hc0 := hSw.c0; have hc1 := hSw.c1; go_simp; try (with_reducible rfl)
    try simp only [Act.put, List.setIfInBounds_toArray, List.set_cons_zero, List.set_cons_succ, List.getElem_toArray, List.getElem_cons_succ, List.getElem_cons_zero]
    refine wpAnyH_ready (rs := [1]) (by kernel_rfl) (by simp) (AllReadyH.cons rfl (fun K hK => ?_) AllReadyH.nil)
    rw [if_pos (by kernel_rfl)]
    go_simp
    refine (rright_ok n bits _ hn).mono ?_
    rintro e u ⟨rfl, hbu⟩
    rw [HR.out]
    try dsimp only
    refine hK.out _ _ (hHeld.on hHeld.b.size hbu) (fun hHeld => ?_)
    try simp only [Act.put, List.setIfInBounds_toArray, List.set_cons_zero, List.set_cons_succ, List.getElem_toArray, List.getElem_cons_succ, List.getElem_cons_zero]
    refine take_at (some 7) (i := 2) (v := ?_) rfl rfl (by kernel_rfl) (by kernel_rfl) (by kernel_rfl) (fun _ _ _ h => h) (Or.inl ⟨by kernel_rfl, ?_⟩) hHeld ?_
    rotate_left
    · intro wz hSw; have hc0 := hSw.c0; have hc1 := hSw.c1; go_simp; try (with_reducible rfl)
    try simp only [Act.put, List.setIfInBounds_toArray, List.set_cons_zero, List.set_cons_succ, List.getElem_toArray, List.getElem_cons_succ, List.getElem_cons_zero]
    refine wpAnyH_take (i := 3) (v := undef) rfl (by kernel_rfl) (by kernel_rfl) (by kernel_rfl) (fun _ _ _ h => h) (Or.inr ⟨by kernel_rfl, rfl⟩) hHeld ?_
    try simp only [Act.put, List.setIfInBounds_toArray, List.set_cons_zero, List.set_cons_succ, List.getElem_toArray, List.getElem_cons_succ, List.getElem_cons_zero]
    refine wpAnyH_take (i := 4) (v := undef) rfl (by kernel_rfl) (by kernel_rfl) (by kernel_rfl) (fun _ _ _ h => h) (Or.inr ⟨by kernel_rfl, rfl⟩) hHeld ?_
    try simp only [Act.put, List.setIfInBounds_toArray, List.set_cons_zero, List.set_cons_succ, List.getElem_toArray, List.getElem_cons_succ, List.getElem_cons_zero]
    refine wpAnyH_take (i := 5) (v := undef) rfl (by kernel_rfl) (by kernel_rfl) (by kernel_rfl) (fun _ _ _ h => h) (Or.inr ⟨by kernel_rfl, rfl⟩) hHeld ?_
    try simp only [Act.put, List.setIfInBounds_toArray, List.set_cons_zero, List.set_cons_succ, List.getElem_toArray, List.getElem_cons_succ, List.getElem_cons_zero]
    refine wpAnyH_take (i := 6) (v := undef) rfl (by kernel_rfl) (by kernel_rfl) (by kernel_rfl) (fun _ _ _ h => h) (Or.inr ⟨by kernel_rfl, rfl⟩) hHeld ?_
    try simp only [Act.put, List.setIfInBounds_toArray, List.set_cons_zero, List.set_cons_succ, List.getElem_toArray, List.getElem_cons_succ, List.getElem_cons_zero]
    refine wpAnyH_take (i := 7) (v := undef) rfl (by kernel_rfl) (by kernel_rfl) (by kernel_rfl) (fun _ _ _ h => h) (Or.inr ⟨by kernel_rfl, rfl⟩) hHeld ?_
    try simp only [Act.put, List.setIfInBounds_toArray, List.set_cons_zero, List.set_cons_succ, List.getElem_toArray, List.getElem_cons_succ, List.getElem_cons_zero]
    refine wpAnyH_take (i := 8) (v := undef) rfl (by kernel_rfl) (by kernel_rfl) (by kernel_rfl) (fun _ _ _ h => h) (Or.inr ⟨by kernel_rfl, rfl⟩) hHeld ?_
    try simp only [Act.put, List.setIfInBounds_toArray, List.set_cons_zero, List.set_cons_succ, List.getElem_toArray, List.getElem_cons_succ, List.getElem_cons_zero]
    refine wpAnyH_take (i := 9) (v := undef) rfl (by kernel_rfl) (by kernel_rfl) (by kernel_rfl) (fun _ _ _ h => h) (Or.inr ⟨by kernel_rfl, rfl⟩) hHeld ?_
    try simp only [Act.put, List.setIfInBounds_toArray, List.set_cons_zero, List.set_cons_succ, List.getElem_toArray, List.getElem_cons_succ, List.getElem_cons_zero]
    refine take_at (some 15) (i := 10) (v := ?_) rfl rfl (by kernel_rfl) (by kernel_rfl) (by kernel_rfl) (fun _ _ _ h => h) (Or.inl ⟨by kernel_rfl, ?_⟩) hHeld ?_
    rotate_left
    · intro wz hSw; have hc0 := hSw.c0; have hc1 := hSw.c1; go_simp; try (with_reducible rfl)
    try simp only [Act.put, List.setIfInBounds_toArray, List.set_cons_zero, List.set_cons_succ, List.getElem_toArray, List.getElem_cons_succ, List.getElem_cons_zero]
    refine take_at (some 4) (i := 11) (v := ?_) rfl rfl (by kernel_rfl) (by kernel_rfl) (by kernel_rfl) (fun _ _ _ h => h) (Or.inl ⟨by kernel_rfl, ?_⟩) hHeld ?_
    rotate_left
    · intro wz hSw; have hc0 := hSw.c0; have hc1 := hSw.c1; go_simp; try (with_reducible rfl)
    try simp only [Act.put, List.setIfInBounds_toArray, List.set_cons_zero, List.set_cons_succ, List.getElem_toArray, List.getElem_cons_succ, List.getElem_cons_zero]
    refine wpAnyH_done (by kernel_rfl) ?_ _
    go_wp2
    go_ret
    exact ⟨by rw [HI.out]; rfl, hHeld.b⟩

end Go.Proofs.Ytcplebbaiambgaa

/- Names with more behind them: plain mathematics. -/
namespace Go.Proofs.Ytcplebbaiambgaa
set_option linter.unusedVariables false
set_option maxRecDepth 100000
set_option linter.unusedSimpArgs false

def letB (c : UInt8) : Bool := (decide (97 ≤ c.toNat) && decide (c.toNat ≤ 122)) || (decide (48 ≤ c.toNat) && decide (c.toNat ≤ 57))
def nameL (l : List UInt8) : Bool := decide (1 ≤ l.length) && decide (l.length ≤ 20) && decide ((l.getD 0 0).toNat ≠ 45) && decide ((l.getD (l.length - 1) 0).toNat ≠ 45) && l.all nmdB
theorem nameB_L (l : List UInt8) : nameB (bs l) = nameL l := by
  unfold nameB nameL
  rw [bs_data, bs_size]
theorem let_nmd (c : UInt8) : letB c = (nmdB c && decide (c.toNat ≠ 45)) := by
  unfold letB nmdB
  rw [Bool.eq_iff_iff]
  simp
  omega
theorem getD_leftS (l r : List UInt8) (h : l ≠ []) : (l ++ r).getD 0 0 = l.getD 0 0 := by
  cases l with
  | nil => exact absurd rfl h
  | cons x l => rfl
theorem getD_last (l : List UInt8) (c : UInt8) : (l ++ [c]).getD ((l ++ [c]).length - 1) 0 = c := by
  rw [List.length_append, List.length_singleton, Nat.add_sub_cancel]
  simp [List.getD]
structure NameP (l : List UInt8) : Prop where
  one : 1 ≤ l.length
  most : l.length ≤ 20
  first : (l.getD 0 0).toNat ≠ 45
  last : (l.getD (l.length - 1) 0).toNat ≠ 45
  all : l.all nmdB = true
theorem name_p {l : List UInt8} (h : nameL l = true) : NameP l := by
  unfold nameL at h
  simp only [Bool.and_eq_true, decide_eq_true_eq] at h
  exact ⟨h.1.1.1.1, h.1.1.1.2, h.1.1.2, h.1.2, h.2⟩
theorem NameP.ne {l : List UInt8} (h : NameP l) : l ≠ [] := by
  intro e; have := h.one; rw [e] at this; simp at this

theorem name_more (l : List UInt8) (c : UInt8) (h : nameL l = true) : nameL (l ++ [c]) = (letB c && decide (l.length < 20)) := by
  have p := name_p h
  unfold nameL
  rw [getD_last, getD_leftS l _ p.ne, List.all_append, p.all, let_nmd, decide_eq_true p.first, List.length_append, List.length_singleton]
  generalize hb : nmdB c = b
  rw [Bool.eq_iff_iff]
  cases b <;> simp [hb] <;> omega
theorem name_line (l : List UInt8) (h : nameL l = true) : nameL (l ++ [45]) = false := by
  rw [name_more l 45 h]
  have : letB 45 = false := by decide
  rw [this]; rfl
theorem line_name (l : List UInt8) : nameL (45 :: l) = false := by
  unfold nameL
  simp
theorem name_line_more (l : List UInt8) (c : UInt8) (h : nameL l = true) : nameL (l ++ [45] ++ [c]) = (letB c && decide (l.length < 19)) := by
  have p := name_p h
  have e45 : nmdB 45 = true := by decide
  unfold nameL
  rw [getD_last, List.append_assoc, getD_leftS l _ p.ne, List.all_append, List.all_append, p.all, let_nmd, decide_eq_true p.first, List.length_append, List.length_append, List.length_singleton, List.length_singleton]
  generalize hb : nmdB c = b
  rw [Bool.eq_iff_iff]
  cases b <;> simp [hb, e45] <;> omega
theorem name_one (c : UInt8) : nameL [c] = letB c := by
  rw [let_nmd]
  unfold nameL
  rw [Bool.eq_iff_iff]
  simp
  constructor
  · rintro ⟨h1, h2⟩; exact ⟨h2, h1⟩
  · rintro ⟨h1, h2⟩; exact ⟨h2, h1⟩
end Go.Proofs.Ytcplebbaiambgaa

/- The document's own: Name, Dots: their contracts. -/
namespace Go.Proofs.Ytcplebbaiambgaa
set_option linter.unusedVariables false
set_option maxRecDepth 100000
set_option linter.unusedSimpArgs false
open Go.RowKit

def okI (l : List UInt8) (i : Nat) : Bool := letB (l.getD i 0) || (decide ((l.getD i 0).toNat = 45) && decide (0 < i) && decide (i + 1 < l.length))
theorem nmd_let (c : UInt8) : nmdB c = (letB c || decide (c.toNat = 45)) := rfl
theorem ok_nmd (l : List UInt8) (i : Nat) (h : okI l i = true) : nmdB (l.getD i 0) = true := by
  unfold okI at h
  rw [nmd_let]
  simp only [Bool.or_eq_true, Bool.and_eq_true, decide_eq_true_eq] at h ⊢
  rcases h with h | h
  · exact .inl h
  · exact .inr h.1.1
theorem let_not (c : UInt8) (h : letB c = true) : c.toNat ≠ 45 := by
  intro e
  unfold letB at h
  rw [e] at h
  simp at h
theorem all_getD (p : UInt8 → Bool) (l : List UInt8) : l.all p = true ↔ ∀ i, i < l.length → p (l.getD i 0) = true := by
  rw [List.all_eq_true]
  constructor
  · intro h i hi
    rw [List.getD, List.getElem?_eq_getElem hi]
    exact h _ (List.getElem_mem hi)
  · intro h x hx
    obtain ⟨i, hi, rfl⟩ := List.mem_iff_getElem.1 hx
    have := h i hi
    rwa [List.getD, List.getElem?_eq_getElem hi] at this
theorem name_all (l : List UInt8) (h : ∀ i, i < l.length → okI l i = true) : nameL l = (decide (1 ≤ l.length) && decide (l.length ≤ 20)) := by
  unfold nameL
  have ha : l.all nmdB = true := (all_getD nmdB l).2 (fun i hi => ok_nmd l i (h i hi))
  rw [ha]
  by_cases h1 : 1 ≤ l.length
  · have g0 := h 0 (by omega)
    have g1 := h (l.length - 1) (by omega)
    have e0 : (l.getD 0 0).toNat ≠ 45 := by
      unfold okI at g0
      simp only [Bool.or_eq_true, Bool.and_eq_true, decide_eq_true_eq] at g0
      rcases g0 with g | g
      · exact let_not _ g
      · omega
    have e1 : (l.getD (l.length - 1) 0).toNat ≠ 45 := by
      unfold okI at g1
      simp only [Bool.or_eq_true, Bool.and_eq_true, decide_eq_true_eq] at g1
      rcases g1 with g | g
      · exact let_not _ g
      · omega
    rw [decide_eq_true e0, decide_eq_true e1]; simp
  · simp [h1]
theorem name_not (l : List UInt8) (i : Nat) (hi : i < l.length) (h : okI l i = false) : nameL l = false := by
  cases hn : nameL l with
  | false => rfl
  | true =>
    have p := name_p hn
    have ha := (all_getD nmdB l).1 p.all i hi
    rw [nmd_let] at ha
    unfold okI at h
    simp only [Bool.or_eq_true, Bool.or_eq_false_iff, Bool.and_eq_false_iff, decide_eq_true_eq, decide_eq_false_iff_not] at ha h
    rcases ha with g | g
    · rw [h.1] at g; cases g
    · rcases h.2 with (h2 | h2) | h2
      · exact (h2 g).elim
      · have : i = 0 := by omega
        subst this
        exact (p.first g).elim
      · have : i = l.length - 1 := by omega
        subst this
        exact (p.last g).elim

set_option maxRecDepth 100000 in
set_option maxHeartbeats 2000000 in
theorem rname_ok (s : ByteArray) (w : World) (hs : s.size ≤ 140737488355328) :
    Calls Try.prog 55 #[.string s] w fun e w' => e = .returned (.bool (nameB s)) ∧ w = w' := by
  obtain ⟨R, hR⟩ : ∃ R, nameL s.data.toList = R := ⟨_, rfl⟩
  rw [show nameB s = R from hR]
  have HR := Lib.hid hR
  clear hR
  go_enter Try.func55, Try.ntmps55
  go_wp2_with fail
  go_loop [3] (fun v3 => ∃ i : Nat, i ≤ s.size ∧ v3 = .int .i64 i ∧ Hid (∀ j, j < i → okI s.data.toList j = true)) (fun v3 => s.size - (intOf v3).toNat)
  case atStart => exact ⟨0, by omega, rfl, Lib.hid (fun j hj => by omega)⟩
  case round =>
    obtain ⟨i, hi, rfl, HE⟩ := hrel
    by_cases hlt : i < s.size
    · obtain ⟨v, hv⟩ : ∃ v, (s.data.toList.getD i 0).toNat = v := ⟨_, rfl⟩
      have hv2 : v < 256 := by rw [← hv]; exact UInt8.toNat_lt _
      have hxi := sidx s i v hlt hv w
      have HOK := Lib.hid (show okI s.data.toList i = (((decide (97 ≤ v) && decide (v ≤ 122)) || (decide (48 ≤ v) && decide (v ≤ 57))) || (decide (v = 45) && decide (0 < i) && decide (i + 1 < s.size))) by
        unfold okI letB; rw [hv]; rfl)
      have HNO := Lib.hid (fun h : okI s.data.toList i = false => show R = false by rw [← HR.out]; exact name_not _ i hlt h)
      have HYES := Lib.hid (fun h : okI s.data.toList i = true => show ∀ j, j < i + 1 → okI s.data.toList j = true from fun j hj => by
        by_cases hji : j = i
        · rw [hji]; exact h
        · exact HE.out j (by omega))
      clear hv HE HR
      by_cases h45 : v = 45
      · subst h45
        have hxi : (Instr.index 9 (.string s) (.int .i64 (i : Int))).run Try.prog w = .ok (.int .u8 45) w := hxi
        by_cases hi0 : 0 < i
        · by_cases hil : i + 1 < s.size
          · have hil2 : (i : Int) < (s.size : Int) - 1 := by omega
            have hil3 : decide ((i : Int) < (s.size : Int) - 1) = true := by simp <;> omega
            go_wp2
            go_round
            case rel => exact ⟨i + 1, by omega, by go_num, Lib.hid (HYES.out (by rw [HOK.out]; simp [hi0, hil]))⟩
            case measure => simp [intOf]; omega
          · have hil2 : (s.size : Int) - 1 ≤ (i : Int) := by omega
            have hil3 : decide ((i : Int) < (s.size : Int) - 1) = false := by simp <;> omega
            go_wp2
            go_ret
            exact ⟨by rw [HNO.out (by rw [HOK.out]; simp [hil])]; rfl, rfl⟩
        · obtain rfl : i = 0 := by omega
          have hxi : (Instr.index 9 (.string s) (.int .i64 0)).run Try.prog w = .ok (.int .u8 45) w := hxi
          go_wp2
          go_ret
          exact ⟨by rw [HNO.out (by rw [HOK.out]; simp)]; rfl, rfl⟩
      · have e45 : ((v : Int) == 45) = false := by rw [beq_eq_false_iff_ne]; omega
        by_cases hy : (97 ≤ v ∧ v ≤ 122) ∨ (48 ≤ v ∧ v ≤ 57)
        · have HY := Lib.hid (HYES.out (by rw [HOK.out]; simp; omega))
          clear HOK HNO HYES h45
          rcases hy with ⟨a1, a2⟩ | ⟨a1, a2⟩
          · have b1 : (97 : Int) ≤ (v : Int) := by omega
            have b2 : (v : Int) ≤ 122 := by omega
            go_wp2
            go_round
            case rel => exact ⟨i + 1, by omega, by go_num, HY⟩
            case measure => simp [intOf]; omega
          · have b1 : (48 : Int) ≤ (v : Int) := by omega
            have b2 : (v : Int) ≤ 57 := by omega
            have b3 : (v : Int) < 97 := by omega
            go_wp2
            go_round
            case rel => exact ⟨i + 1, by omega, by go_num, HY⟩
            case measure => simp [intOf]; omega
        · have HN := Lib.hid (HNO.out (by rw [HOK.out]; simp [h45]; omega))
          clear HOK HNO HYES h45
          rcases Nat.lt_or_ge v 48 with a1 | a1
          · have b1 : (v : Int) < 48 := by omega
            have b2 : (v : Int) < 97 := by omega
            go_wp2
            go_ret
            exact ⟨by rw [HN.out]; rfl, rfl⟩
          · rcases Nat.lt_or_ge v 97 with a2 | a2
            · have b1 : (57 : Int) < (v : Int) := by omega
              have b2 : (v : Int) < 97 := by omega
              have b3 : (48 : Int) ≤ (v : Int) := by omega
              go_wp2
              go_ret
              exact ⟨by rw [HN.out]; rfl, rfl⟩
            · have b1 : (122 : Int) < (v : Int) := by omega
              have b2 : (97 : Int) ≤ (v : Int) := by omega
              have b3 : (57 : Int) < (v : Int) := by omega
              have b4 : (48 : Int) ≤ (v : Int) := by omega
              go_wp2
              go_ret
              exact ⟨by rw [HN.out]; rfl, rfl⟩
    · have HF := Lib.hid (show R = (decide (1 ≤ s.size) && decide (s.size ≤ 20)) by
        rw [← HR.out]
        exact name_all _ (fun j hj => HE.out j (by have : s.data.toList.length = s.size := rfl; omega)))
      clear HE HR
      by_cases h1 : 1 ≤ s.size
      · by_cases h2 : s.size ≤ 20
        · rw [decide_eq_true h1, decide_eq_true h2] at HF
          have b1 : decide ((1 : Int) ≤ (s.size : Int)) = true := by simp <;> omega
          have b2 : decide ((s.size : Int) ≤ 20) = true := by simp <;> omega
          go_wp2
          go_ret
          exact ⟨by rw [HF.out]; rfl, rfl⟩
        · rw [decide_eq_true h1, decide_eq_false h2] at HF
          have b1 : decide ((1 : Int) ≤ (s.size : Int)) = true := by simp <;> omega
          have b2 : decide ((s.size : Int) ≤ 20) = false := by simp <;> omega
          go_wp2
          go_ret
          exact ⟨by rw [HF.out]; rfl, rfl⟩
      · rw [decide_eq_false h1] at HF
        have b1 : decide ((1 : Int) ≤ (s.size : Int)) = false := by simp <;> omega
        go_wp2
        go_ret
        exact ⟨by rw [HF.out]; rfl, rfl⟩
end Go.Proofs.Ytcplebbaiambgaa

/- The document's own: time, num, line: their contracts. -/
namespace Go.Proofs.Ytcplebbaiambgaa
set_option linter.unusedVariables false
set_option maxRecDepth 100000
set_option linter.unusedSimpArgs false
open Go.RowKit

theorem rtime_ok (n : Int) (w : World) :
    Calls Try.prog 41 #[.int .i64 n] w fun e w' => e = .returned (.bool (timB n)) ∧ Below w.heap.size w w' := by
  have HT := Lib.hid (show timB n = (decide (1 ≤ n) && decide (n ≤ 1073741824)) from rfl)
  by_cases h1 : 1 ≤ n
  · have h2 : decide (1 ≤ n) = true := decide_eq_true h1
    go_enter Try.func41, Try.ntmps41
    go_wp2
    go_ret
    exact ⟨by rw [HT.out, h2, Bool.true_and]; rfl, Below.refl _ _⟩
  · have h2 : decide (1 ≤ n) = false := decide_eq_false h1
    go_enter Try.func41, Try.ntmps41
    go_wp2
    go_ret
    exact ⟨by rw [HT.out, h2]; rfl, Below.refl _ _⟩

theorem joinL_snoc (c : UInt8) : ∀ (l : List (List UInt8)) (x : List UInt8), l ≠ [] → joinL c (l ++ [x]) = joinL c l ++ c :: x
  | [], _, h => absurd rfl h
  | [p], x, _ => by show p ++ c :: joinL c [x] = _; rfl
  | p :: q :: ps, x, _ => by
    show p ++ c :: joinL c (q :: ps ++ [x]) = (p ++ c :: joinL c (q :: ps)) ++ c :: x
    rw [joinL_snoc c (q :: ps) x (by simp), List.append_assoc, List.cons_append]
theorem joinL_app (c : UInt8) : ∀ (l r : List (List UInt8)), (joinL c l).length ≤ (joinL c (l ++ r)).length
  | [], r => by simp [joinL]
  | [p], [] => by simp
  | [p], q :: r => by show p.length ≤ (p ++ c :: joinL c (q :: r)).length; rw [List.length_append]; omega
  | p :: q :: ps, r => by
    have ih := joinL_app c (q :: ps) r
    show (p ++ c :: joinL c (q :: ps)).length ≤ (p ++ c :: joinL c (q :: ps ++ r)).length
    rw [List.length_append, List.length_append, List.length_cons, List.length_cons]; omega

end Go.Proofs.Ytcplebbaiambgaa
