/- SumL, Text, MacM, ConvR, Lib1, Ke, VtM, CgY, HeldL, Vt1, VtMap, Idx: texts of this seat, one behind the other. -/
import Derived.Test.YtijboiepockmjaaDoorSum
import Derived.Test.YtijboiepockmjaaDoorRows
import Derived.Test.YtijboiepockmjaaDoorG5
import Derived.Test.YtijboiepockmjaaDoorG3
import Derived.Test.YtijboiepockmjaaDoorG1
import Derived.Test.YtijboiepockmjaaDoorG10
import Derived.Test.YtijboiepockmjaaDoorG6
import Derived.Test.YtijboiepockmjaaDoorG8
import Derived.Laws.CopyOwn
import Derived.Test.YtijboiepockmjaaDoorCg6
import Derived.Test.YtijboiepockmjaaDoorCg2
import Derived.Deep.RegionHeld3
import Derived.Maps.OwnSet
import Derived.WideKeyPair
/- The sum's length, and 32 bytes in memory. -/
namespace Go.Proofs.YtijboiepockmjaaDoor
set_option linter.unusedVariables false
set_option maxRecDepth 100000
set_option linter.unusedSimpArgs false
open Go.RowKit

theorem sum_len (l : List UInt8) : (sum l).length = 32 := by unfold sum outB; rw [List.length_map, List.length_range]
/-- The place of 32 bytes that the call has made. -/
theorem zeros_new (w : World) : Bk (w.alloc (.cells #[.int .u8 0, .int .u8 0, .int .u8 0, .int .u8 0, .int .u8 0, .int .u8 0, .int .u8 0, .int .u8 0, .int .u8 0, .int .u8 0, .int .u8 0, .int .u8 0, .int .u8 0, .int .u8 0, .int .u8 0, .int .u8 0, .int .u8 0, .int .u8 0, .int .u8 0, .int .u8 0, .int .u8 0, .int .u8 0, .int .u8 0, .int .u8 0, .int .u8 0, .int .u8 0, .int .u8 0, .int .u8 0, .int .u8 0, .int .u8 0, .int .u8 0, .int .u8 0] 77)) w.heap.size 77 (bcells (List.replicate 32 0)) := Bk.new w 77 _
end Go.Proofs.YtijboiepockmjaaDoor

/- num.Text: its contract. -/
namespace Go.Proofs.YtijboiepockmjaaDoor
set_option linter.unusedVariables false
set_option maxRecDepth 100000
set_option linter.unusedSimpArgs false
open Go.RowKit

/-- A text's bytes; nothing, if it is too long. -/
def textB (s : ByteArray) : List UInt8 := if s.size ≤ 255 then UInt8.ofNat s.size :: s.data.toList else []

theorem byInfo : (Tryd.prog.info? 5).map (fun i => (i.zero, i.size, i.bytes)) = some (some (.int .u8 0), 1, 1) := by kernel_rfl

set_option maxHeartbeats 1000000 in
theorem text_ok (s : ByteArray) (w : World) (hs : s.size ≤ 140737488355328) :
    Calls Tryd.prog 50 #[.string s] w fun e w' => ∃ A c, e = .returned (.slice A (textB s).length c) ∧ OB w' w.heap.size 5 A c (textB s) ∧ Below w.heap.size w w' := by
  by_cases hle : s.size ≤ 255
  · obtain ⟨l, hl⟩ : ∃ l, l = textB s := ⟨_, rfl⟩
    rw [← hl]
    have hl2 : l = [UInt8.ofNat s.size] ++ s.data.toList := by rw [hl, textB, if_pos hle]; rfl
    have HL := Lib.hid hl2
    clear hl hl2
    have e8 : (UInt8.ofNat s.size).toNat = s.size := by simp [UInt8.toNat_ofNat']; omega
    have HE8 := Lib.hid e8
    have hmk : (Instr.makeSlice 52 (.int .i64 0) (.int .i64 (1 + (s.size : Int)))).run Tryd.prog w = .ok (.slice (some ⟨w.heap.size, 0, none⟩) 0 (1 + s.size)) (w.alloc (.cells (Array.replicate (1 + s.size) (.int .u8 0)) 5)) := by
      have := mk_empty (P := Tryd.prog) w 52 5 Tryd.underlying52 byInfo (1 + s.size) (by omega)
      rw [← this]; congr 2
    clear e8
    have h1 := OB.made (B := w.heap.size) w 5 (1 + s.size) (Nat.le_refl _) (by omega)
    have hb1 : Below w.heap.size w (w.alloc (.cells (Array.replicate (1 + s.size) (.int .u8 0)) 5)) := by go_grown
    have hsz : (w.alloc (.cells (Array.replicate (1 + s.size) (.int .u8 0)) 5)).heap.size = w.heap.size + 1 := by simp
    generalize w.alloc (.cells (Array.replicate (1 + s.size) (.int .u8 0)) 5) = w1 at hmk h1 hb1 hsz
    have h2 := Lib.hid (h1.alloc (.cells #[.int .u8 (s.size : Int)] 5))
    have h3 := Lib.hid (Rb.one (w := w1) (t := 5) (c := UInt8.ofNat s.size) (v := (s.size : Int)) (n := w1.heap.size) rfl (by rw [HE8.out]))
    have hsz2 : w.heap.size ≤ w1.heap.size := by omega
    have hb2 : Below w.heap.size w (w1.alloc (.cells #[.int .u8 (s.size : Int)] 5)) := hb1.alloc hsz2 _
    clear hsz h1
    go_enter Tryd.func50, Tryd.ntmps50
    go_wp2_with (first
      | (at_builtin; refine wp_app rfl (.tmp 11) (.tmp 15) 52 5 rfl Tryd.underlying52 byInfo w.heap.size [] _ _ _ rfl rfl h2.out [UInt8.ofNat s.size] _ _ _ _ rfl rfl h3.out (by simp) hb2.size ?_; intro A2 c2 w2 ho hg hb)
      | (at_builtin; refine wp_app_str rfl (.tmp 17) (.tmp 18) 52 9 5 rfl Tryd.underlying52 Tryd.underlying9 byInfo w.heap.size _ _ _ _ rfl rfl ho s rfl (by simp only [List.nil_append, List.length_cons, List.length_nil]; omega) (Nat.le_trans hb2.size hb.size) ?_; intro A3 c3 w3 ho3 hg3 hb3))
    have hll : l.length = s.size + 1 := by rw [HL.out, List.length_append]; show 1 + s.size = s.size + 1; omega
    have hO : OB w3 w.heap.size 5 A3 c3 l := by rw [HL.out]; exact ho3
    go_ret
    exact ⟨A3, c3, by rw [hll]; rfl, hO, (hb2.trans hb).trans hb3⟩
  · have hl : textB s = [] := by rw [textB, if_neg hle]
    rw [hl]
    go_enter Tryd.func50, Tryd.ntmps50
    go_wp2
    go_ret
    exact ⟨none, 0, rfl, OB.nil _ _ _, Below.refl _ _⟩
end Go.Proofs.YtijboiepockmjaaDoor

/- Sums under keys (HMAC), proofs of words: what the document asks, as Lean functions. -/
namespace Go.Proofs.YtijboiepockmjaaDoor
set_option linter.unusedVariables false
set_option maxRecDepth 100000
set_option linter.unusedSimpArgs false
open Go.RowKit

/-- A key of at most 64 bytes. -/
def shortK (key : List UInt8) : List UInt8 := if 64 < key.length then sum key else key
/-- A key of 64 bytes. -/
def keyB (key : List UInt8) : List UInt8 := shortK key ++ List.replicate (64 - (shortK key).length) 0
def padB (key : List UInt8) (c : UInt8) : List UInt8 := (keyB key).map fun x => x ^^^ c
def macB (key b : List UInt8) : List UInt8 := sum (padB key 92 ++ sum (padB key 54 ++ b))
theorem shortK_len (key : List UInt8) : (shortK key).length ≤ 64 := by
  unfold shortK
  split
  · rw [sum_len]; decide
  · omega
theorem keyB_len (key : List UInt8) : (keyB key).length = 64 := by
  have := shortK_len key
  unfold keyB; rw [List.length_append, List.length_replicate]; omega
theorem padB_len (key : List UInt8) (c : UInt8) : (padB key c).length = 64 := by unfold padB; rw [List.length_map, keyB_len]
theorem macB_len (key b : List UInt8) : (macB key b).length = 32 := sum_len _
theorem keyB_long (key : List UInt8) (h : 64 < key.length) : keyB key = keyB (sum key) := by
  have e1 : shortK key = sum key := by unfold shortK; rw [if_pos h]
  have e2 : shortK (sum key) = sum key := by unfold shortK; rw [if_neg (by rw [sum_len]; decide)]
  unfold keyB; rw [e1, e2]
theorem macB_long (key b : List UInt8) (h : 64 < key.length) : macB key b = macB (sum key) b := by
  unfold macB padB; rw [keyB_long key h]
theorem keyB_zeros (key : List UInt8) (n : Nat) (h : key.length + n ≤ 64) : keyB (key ++ List.replicate n 0) = keyB key := by
  have e1 : shortK key = key := by unfold shortK; rw [if_neg (by omega)]
  have e2 : shortK (key ++ List.replicate n 0) = key ++ List.replicate n 0 := by unfold shortK; rw [if_neg (by rw [List.length_append, List.length_replicate]; omega)]
  unfold keyB; rw [e1, e2, List.append_assoc, List.replicate_append_replicate, List.length_append, List.length_replicate]
  congr 2; omega
theorem macB_zeros (key b : List UInt8) (n : Nat) (h : key.length + n ≤ 64) : macB (key ++ List.replicate n 0) b = macB key b := by
  unfold macB padB; rw [keyB_zeros key n h]
set_option maxRecDepth 100000 in
theorem macB_fox : hexB (macB [107, 101, 121] [84, 104, 101, 32, 113, 117, 105, 99, 107, 32, 98, 114, 111, 119, 110, 32, 102, 111, 120, 32, 106, 117, 109, 112, 115, 32, 111, 118, 101, 114, 32, 116, 104, 101, 32, 108, 97, 122, 121, 32, 100, 111, 103]) = [102, 55, 98, 99, 56, 51, 102, 52, 51, 48, 53, 51, 56, 52, 50, 52, 98, 49, 51, 50, 57, 56, 101, 54, 97, 97, 54, 102, 98, 49, 52, 51, 101, 102, 52, 100, 53, 57, 97, 49, 52, 57, 52, 54, 49, 55, 53, 57, 57, 55, 52, 55, 57, 100, 98, 99, 50, 100, 49, 97, 51, 99, 100, 56] := by decide +kernel

theorem ofInt8 (x : UInt8) : BitVec.ofInt 8 (x.toNat : Int) = x.toBitVec := by
  rw [BitVec.ofInt_natCast]; simp
theorem b_xor (x y : UInt8) : bits .xor .u8 (x.toNat : Int) (y.toNat : Int) = ((x ^^^ y).toNat : Int) := by
  have h : (x ^^^ y).toNat < 256 := (x ^^^ y).toNat_lt
  show IntKind.u8.wrap ((BitVec.ofInt 8 (x.toNat : Int) ^^^ BitVec.ofInt 8 (y.toNat : Int)).toNat : Int) = _
  rw [ofInt8, ofInt8, IntKind.wrap_u8]
  have e : (x.toBitVec ^^^ y.toBitVec).toNat = (x ^^^ y).toNat := rfl
  rw [e]; omega
theorem b_or (x y : UInt8) : bits .or .u8 (x.toNat : Int) (y.toNat : Int) = ((x ||| y).toNat : Int) := by
  have h : (x ||| y).toNat < 256 := (x ||| y).toNat_lt
  show IntKind.u8.wrap ((BitVec.ofInt 8 (x.toNat : Int) ||| BitVec.ofInt 8 (y.toNat : Int)).toNat : Int) = _
  rw [ofInt8, ofInt8, IntKind.wrap_u8]
  have e : (x.toBitVec ||| y.toBitVec).toNat = (x ||| y).toNat := rfl
  rw [e]; omega
theorem or_zero (x y : UInt8) : (x ||| y) = 0 ↔ x = 0 ∧ y = 0 := UInt8.or_eq_zero_iff
theorem xor_zero (x y : UInt8) : (x ^^^ y) = 0 ↔ x = y := UInt8.xor_eq_zero_iff

/-- The texts of words, one behind the other. -/
def textsB (ws : List ByteArray) : List UInt8 := (ws.map textB).flatten
theorem textsB_take (ws : List ByteArray) (i : Nat) (h : i < ws.length) : textsB (ws.take (i + 1)) = textsB (ws.take i) ++ textB ws[i] := by
  unfold textsB
  rw [List.take_add_one, List.getElem?_eq_getElem h, List.map_append, List.flatten_append]
  simp
def proofB (key : List UInt8) (ws : List ByteArray) : List UInt8 := if (∀ x ∈ ws, x.size ≤ 255) then hexB (macB key (textsB ws)) else []
end Go.Proofs.YtijboiepockmjaaDoor

/- string(b) in a region that draws its order. Nothing of the program is named here. -/
namespace Go.Proofs.YtijboiepockmjaaDoor
set_option linter.unusedVariables false
set_option maxRecDepth 100000
set_option linter.unusedSimpArgs false
open Go.RowKit

theorem yieldsIf_conv {P : Program} {ops : Array Oper} {S : World → Prop} {oi : Oper} {a : Act} (hw : Region.wanted oi (yielded ops a.tmps) = true) (src e dst : TypeId) (x : Operand) (ho : oi.op = .convert src dst x)
    (A : Option Addr) (n c : Nat) (l : List UInt8) (hx : a.eval x = .slice A n c) (hn : l.length = n) {B : World → Nat} (hR : ∀ w, S w → Rb w (B w) A l) (hs : P.underlying src = some (.slice e)) (he : P.underlying e = some (.int .u8)) (hd : P.underlying dst = some .string) : YieldsIf P ops S oi (.string (bs l)) a :=
  .inl ⟨hw, fun w hw' => by
    unfold execOp
    simp only [ho, hx, Sem.run_bind, str_of (hR w hw') src e dst hs he hd n c hn, Result.andThen_ok, Sem.run_pure, bs]⟩
end Go.Proofs.YtijboiepockmjaaDoor

/- Small words for walks over slices of bytes. -/
namespace Go.Proofs.YtijboiepockmjaaDoor
set_option linter.unusedVariables false
set_option maxRecDepth 100000
set_option linter.unusedSimpArgs false
open Go.RowKit

theorem Rb.on {u u' : World} {A : Option Addr} {l : List UInt8} (h : Rb u u.heap.size A l) (hb : Below u.heap.size u u') : Rb u' u'.heap.size A l := (h.below hb (Nat.le_refl _)).more hb.size
/-- b[:hi]. -/
theorem slice_to (A : Option Addr) (n c hi : Nat) (h : hi ≤ n) (hc : n ≤ c) (u : World) : (Instr.sliceAt 52 (.slice A n c) none (some (.int .i64 (hi : Int))) none).run Tryd.prog u = .ok (.slice A hi c) u := by
  have h1 : (hi : Int) ≤ (n : Int) := by omega
  have h2 : (hi : Int) ≤ (c : Int) := by omega
  go_simp
/-- string(b), where an operation's guard is met, in a region that draws nothing. -/
theorem wpList_conv {P : Program} {ops : Array Oper} {Q : Exit → Act → World → Prop} {a : Act} {w : World} {rest : List Oper} {o : Oper} (hw : Region.wanted o (yielded ops a.tmps) = true) (src e dst : TypeId) (x : Operand) (ho : o.op = .convert src dst x)
    (A : Option Addr) (n c : Nat) (l : List UInt8) (hx : a.eval x = .slice A n c) (hn : l.length = n) {B : Nat} (hR : Rb w B A l) (hs : P.underlying src = some (.slice e)) (he : P.underlying e = some (.int .u8)) (hd : P.underlying dst = some .string)
    (h : wpList P ops Q rest (a.put o.dst (.string (bs l))) w) : wpList P ops Q (o :: rest) a w :=
  wpList_wanted hw fun K hK => by
    have h1 := str_of (P := P) hR src e dst hs he hd n c hn
    unfold Oper.wp execOp
    simp only [ho, hx, Sem.run_bind, h1, Result.andThen_ok, Sem.run_pure]
    exact hK _ _ h
/-- b[lo:lo + many]. -/
theorem slice_mid (A : Option Addr) (n c k q : Nat) (h : k + q ≤ n) (hc : n ≤ c) (u : World) : (Instr.sliceAt 52 (.slice A n c) (some (.int .i64 (k : Int))) (some (.int .i64 ((k : Int) + (q : Int)))) none).run Tryd.prog u = .ok (.slice (tailA A c k) q (c - k)) u := by
  have e : (k : Int) + (q : Int) = ((k + q : Nat) : Int) := by omega
  have h1 : (k : Int) ≤ ((k + q : Nat) : Int) := by omega
  have h2 : ((k + q : Nat) : Int) ≤ (c : Int) := by omega
  have e2 : k + q - k = q := by omega
  rw [e]
  generalize hj : k + q = j at h1 h2 e2 ⊢
  unfold tailA
  go_simp
/-- b[lo:hi] in a region that draws nothing. -/
theorem wpList_two {P : Program} {ops : Array Oper} {rest : List Oper} {o : Oper} {a : Act} {Q : Exit → Act → World → Prop} {w : World} (hgd : o.guard = none) (t : TypeId) (x lo hi : Operand) (ho : o.op = .slice t x (some lo) (some hi) none) (vx vl vh v : Value) (hx : a.eval x = vx) (hl : a.eval lo = vl) (hh : a.eval hi = vh)
    (hr : (Instr.sliceAt t vx (some vl) (some vh) none).run P w = .ok v w) (h : wpList P ops Q rest (a.put o.dst v) w) : wpList P ops Q (o :: rest) a w :=
  wpList_plain hgd fun _ hK => by
    unfold Oper.wp execOp
    simp only [ho, Option.map_some, Option.map_none, hx, hl, hh, Sem.run_bind, hr, Result.andThen_ok, Sem.run_pure]
    exact hK _ _ h
/-- append of bytes, the new length being the sum. -/
theorem wp_app_n {P : Program} {ops : Array Oper} {rest : List Oper} {o : Oper} {a : Act} {Q : Exit → Act → World → Prop} {w : World} (hgd : o.guard = none) (s x : Operand) (t e : TypeId)
    (ho : o.op = .call { callee := .builtin .append, args := #[s, x], argTypes := #[t, t] }) (ht : P.underlying t = some (.slice e))
    (hi : (P.info? e).map (fun i => (i.zero, i.size, i.bytes)) = some (some (.int .u8 0), 1, 1)) (B : Nat) (l : List UInt8) (A : Option Addr) (n c : Nat) (hs : a.eval s = .slice A n c) (hn : l.length = n) (hown : OB w B e A c l)
    (k : List UInt8) (A' : Option Addr) (m c' B' : Nat) (hx : a.eval x = .slice A' m c') (hm : k.length = m) (hnil : A' = none → m = 0 ∧ c' = 0) (hR : Rb w B' A' k)
    (hlen : n + m ≤ 140737488355328) (hbase : B ≤ w.heap.size) (s' : Nat) (hsum : n + m = s')
    (h : ∀ A2 c2 w', OB w' B e A2 c2 (l ++ k) → w.grownBy w' (Value.slice A n c).ownBlock → Below B w w' → wpList P ops Q rest (a.put o.dst (.slice A2 s' c2)) w') : wpList P ops Q (o :: rest) a w :=
  wp_app_any hgd s x t e ho ht hi B l A n c hs hn hown k A' m c' B' hx hm hnil hR (by rw [hn, hm]; exact hlen) hbase (fun A2 c2 w' k1 k2 k3 => by rw [List.length_append, hn, hm, hsum]; exact h A2 c2 w' k1 k2 k3)
theorem OB.nil_ {w : World} {B : Nat} {e : TypeId} {A : Option Addr} {c : Nat} {l : List UInt8} (h : OB w B e A c l) (hA : A = none) : l.length = 0 ∧ c = 0 := by
  rcases h.2 with ⟨hv, h0⟩ | ⟨g, cap, cur, hv, _⟩
  · injection hv with _ _ h3
    exact ⟨h0, h3⟩
  · rw [hA] at hv; cases hv
theorem tail_nil {A : Option Addr} {n c k q : Nat} (h : A = none → n = 0 ∧ c = 0) (hq : k + q ≤ n) : tailA A c k = none → q = 0 ∧ c - k = 0 := fun e => by
  obtain ⟨h1, h2⟩ := h (tailA_none A c k e)
  omega
/-- b[:hi] in a region that draws nothing. -/
theorem wpList_to {P : Program} {ops : Array Oper} {rest : List Oper} {o : Oper} {a : Act} {Q : Exit → Act → World → Prop} {w : World} (hgd : o.guard = none) (t : TypeId) (x hi : Operand) (ho : o.op = .slice t x none (some hi) none) (vx vh v : Value) (hx : a.eval x = vx) (hh : a.eval hi = vh)
    (hr : (Instr.sliceAt t vx none (some vh) none).run P w = .ok v w) (h : wpList P ops Q rest (a.put o.dst v) w) : wpList P ops Q (o :: rest) a w :=
  wpList_plain hgd fun _ hK => by
    unfold Oper.wp execOp
    simp only [ho, Option.map_some, Option.map_none, hx, hh, Sem.run_bind, hr, Result.andThen_ok, Sem.run_pure]
    exact hK _ _ h
/-- min of two numbers, as one operation. -/
theorem op_min {P : Program} {o : Oper} {a : Act} {K : Act → World → Prop} {Q : Exit → Act → World → Prop} {w : World} (x y : Operand) (t : TypeId) (ho : o.op = .call { callee := .builtin .min, args := #[x, y], argTypes := #[t, t] }) (u v m : Int) (hx : a.eval x = .int .i64 u) (hy : a.eval y = .int .i64 v) (hm : min u v = m)
    (h : K (a.put o.dst (.int .i64 m)) w) : o.wp P a w K Q := by
  subst hm
  have e : (if v < u then v else u) = min u v := by split <;> omega
  have hr : (Builtin.min_ #[t, t] o.type #[.int .i64 u, .int .i64 v]).run P w = .ok (.int .i64 (min u v)) w := by rw [← e]; simp [Builtin.min_, Builtin.min2]
  unfold Oper.wp execOp
  simp only [ho, resolve, invoke, builtin, Sem.run_bind, Sem.run_pure, Result.andThen_ok, List.map_toArray, List.map_cons, List.map_nil, hx, hy, hr]
  exact h
/-- max of two numbers, as one operation. -/
theorem op_max {P : Program} {o : Oper} {a : Act} {K : Act → World → Prop} {Q : Exit → Act → World → Prop} {w : World} (x y : Operand) (t : TypeId) (ho : o.op = .call { callee := .builtin .max, args := #[x, y], argTypes := #[t, t] }) (u v m : Int) (hx : a.eval x = .int .i64 u) (hy : a.eval y = .int .i64 v) (hm : max u v = m)
    (h : K (a.put o.dst (.int .i64 m)) w) : o.wp P a w K Q := by
  subst hm
  have e : (if v > u then v else u) = max u v := by split <;> omega
  have hr : (Builtin.max_ #[t, t] o.type #[.int .i64 u, .int .i64 v]).run P w = .ok (.int .i64 (max u v)) w := by rw [← e]; simp [Builtin.max_, Builtin.max2]
  unfold Oper.wp execOp
  simp only [ho, resolve, invoke, builtin, Sem.run_bind, Sem.run_pure, Result.andThen_ok, List.map_toArray, List.map_cons, List.map_nil, hx, hy, hr]
  exact h
/-- The same in a region that draws nothing. -/
theorem wpList_min {P : Program} {ops : Array Oper} {rest : List Oper} {o : Oper} {a : Act} {Q : Exit → Act → World → Prop} {w : World} (hgd : o.guard = none) (x y : Operand) (t : TypeId) (ho : o.op = .call { callee := .builtin .min, args := #[x, y], argTypes := #[t, t] }) (u v m : Int) (hx : a.eval x = .int .i64 u) (hy : a.eval y = .int .i64 v) (hm : min u v = m)
    (h : wpList P ops Q rest (a.put o.dst (.int .i64 m)) w) : wpList P ops Q (o :: rest) a w :=
  wpList_plain hgd fun K hK => op_min x y t ho u v m hx hy hm (hK _ _ h)
theorem wpList_max {P : Program} {ops : Array Oper} {rest : List Oper} {o : Oper} {a : Act} {Q : Exit → Act → World → Prop} {w : World} (hgd : o.guard = none) (x y : Operand) (t : TypeId) (ho : o.op = .call { callee := .builtin .max, args := #[x, y], argTypes := #[t, t] }) (u v m : Int) (hx : a.eval x = .int .i64 u) (hy : a.eval y = .int .i64 v) (hm : max u v = m)
    (h : wpList P ops Q rest (a.put o.dst (.int .i64 m)) w) : wpList P ops Q (o :: rest) a w :=
  wpList_plain hgd fun K hK => op_max x y t ho u v m hx hy hm (hK _ _ h)
end Go.Proofs.YtijboiepockmjaaDoor

/- What turns in memory: all that was there is as it was, but in some blocks. Slices of bytes that lie away from some blocks. copy as one operation. Nothing of the program is named here. -/
namespace Go.Proofs.YtijboiepockmjaaDoor
set_option linter.unusedVariables false
set_option maxRecDepth 100000
set_option linter.unusedSimpArgs false
open Go.RowKit

/-- But in the blocks of L, all that was there is as it was. -/
structure Ke (L : List Nat) (w w' : World) : Prop where
  os : w'.os = w.os
  tape : w'.tape = w.tape
  output : w'.output = w.output
  size : w.heap.size ≤ w'.heap.size
  block : ∀ k, k < w.heap.size → k ∉ L → w'.heap[k]? = w.heap[k]?

theorem Ke.refl (L : List Nat) (w : World) : Ke L w w := ⟨rfl, rfl, rfl, Nat.le_refl _, fun _ _ _ => rfl⟩
theorem Ke.trans {L : List Nat} {a b c : World} (h : Ke L a b) (k : Ke L b c) : Ke L a c :=
  ⟨k.os.trans h.os, k.tape.trans h.tape, k.output.trans h.output, Nat.le_trans h.size k.size, fun i hi hL => (k.block i (Nat.lt_of_lt_of_le hi h.size) hL).trans (h.block i hi hL)⟩
theorem Ke.more {L L' : List Nat} {a b : World} (h : Ke L a b) (hL : ∀ x ∈ L, x ∈ L') : Ke L' a b := ⟨h.os, h.tape, h.output, h.size, fun k hk hn => h.block k hk (fun hx => hn (hL k hx))⟩
theorem Ke.nil {L : List Nat} {a b : World} (h : Ke [] a b) : Ke L a b := h.more (fun x hx => by cases hx)
theorem Ke.drew {L : List Nat} {a b : World} (h : Ke L a b) : Ke L a b.drew := ⟨h.os, h.tape, h.output, h.size, h.block⟩
theorem Ke.alloc {L : List Nat} {a b : World} (h : Ke L a b) (o : Obj) : Ke L a (b.alloc o) := h.trans ⟨rfl, rfl, rfl, by simp, fun k hk _ => Below.heap_alloc _ _ _ hk⟩
theorem Ke.set {L : List Nat} {a b : World} (h : Ke L a b) {p : Addr} (hp : p.block ∈ L) (u : Value) : Ke L a (b.setCell p u) :=
  h.trans ⟨rfl, rfl, rfl, by simp [World.setCell], fun k hk hn => Below.heap_setCell _ _ _ _ (fun e => hn (e ▸ hp))⟩
theorem Ke.row {L : List Nat} {a b : World} (h : Ke L a b) {g : Nat} (hg : g ∈ L) (cs : Array Value) : Ke L a (b.setRow g cs) :=
  h.trans ⟨rfl, rfl, rfl, by simp [World.setRow], fun k hk hn => setRow_other _ _ _ _ (fun e => hn (e ▸ hg))⟩
/-- A block that is behind all that was there may turn as it likes. -/
theorem Ke.new {L : List Nat} {g : Nat} {a b : World} (h : Ke (g :: L) a b) (hg : a.heap.size ≤ g) : Ke L a b :=
  ⟨h.os, h.tape, h.output, h.size, fun k hk hn => h.block k hk (fun hx => by
    rcases List.mem_cons.1 hx with rfl | hx
    · omega
    · exact hn hx)⟩
theorem Ke.of {w w' : World} (h : Below w.heap.size w w') : Ke [] w w' := ⟨h.os, h.tape, h.output, h.size, fun k hk _ => h.block k hk⟩
theorem Ke.below {L : List Nat} {w w' : World} {B : Nat} (h : Ke L w w') (hB : B ≤ w.heap.size) (hL : ∀ x ∈ L, B ≤ x) : Below B w w' :=
  ⟨h.os, h.tape, h.output, h.size, fun k hk => h.block k (by omega) (fun hx => by have := hL k hx; omega)⟩

theorem Bk.ke {L : List Nat} {w w' : World} {g : Nat} {t : TypeId} {cs : Array Value} (h : Bk w g t cs) (k : Ke L w w') (hg : g ∉ L) : Bk w' g t cs := (k.block g h.lt hg).trans h
theorem Bk.row {w : World} {g : Nat} {t : TypeId} {cs : Array Value} (h : Bk w g t cs) (ds : Array Value) : Bk (w.setRow g ds) g t ds := setRow_heap w g cs ds t _ h
theorem Bk.rowFar {w : World} {g g' : Nat} {t : TypeId} {cs : Array Value} (h : Bk w g t cs) (hn : g ≠ g') (ds : Array Value) : Bk (w.setRow g' ds) g t cs := (setRow_other w g' g ds hn).trans h

/-- The slice at A reads as the bytes l, and lies in none of the blocks of L. -/
def Rf (w : World) (L : List Nat) (A : Option Addr) (l : List UInt8) : Prop :=
  l = [] ∨ ∃ b o, A = some ⟨b, o, none⟩ ∧ b ∉ L ∧ b < w.heap.size ∧ ∀ i, (h : i < l.length) → w.cell? ⟨b, o + i, none⟩ = some (.int .u8 ((l[i]).toNat : Int))

theorem Rf.rb {w : World} {L : List Nat} {A : Option Addr} {l : List UInt8} (h : Rf w L A l) : Rb w w.heap.size A l := by
  rcases h with h | ⟨b, o, e, _, hb, hc⟩
  · exact .inl h
  · exact .inr ⟨b, o, e, hb, hc⟩
theorem Rb.rf {w : World} {B : Nat} {L : List Nat} {A : Option Addr} {l : List UInt8} (h : Rb w B A l) (hL : ∀ x ∈ L, B ≤ x) : Rf w L A l := by
  rcases h with h | ⟨b, o, e, hb, hc⟩
  · exact .inl h
  · by_cases h0 : l = []
    · exact .inl h0
    · have h1 := hc 0 (List.length_pos_iff.2 h0)
      exact .inr ⟨b, o, e, fun hx => by have := hL b hx; omega, World.block_lt_of_cell? w _ h1, hc⟩
theorem Rf.ke {w w' : World} {L L' : List Nat} {A : Option Addr} {l : List UInt8} (h : Rf w L A l) (k : Ke L' w w') (hL : ∀ x ∈ L', x ∈ L) : Rf w' L A l := by
  rcases h with h | ⟨b, o, e, hn, hb, hc⟩
  · exact .inl h
  · exact .inr ⟨b, o, e, hn, Nat.lt_of_lt_of_le hb k.size, fun i hi => (World.cell?_of_block (w := w) (a := ⟨b, o + i, none⟩) (k.block b hb (fun hx => hn (hL b hx)))).trans (hc i hi)⟩
theorem Rf.less {w : World} {L L' : List Nat} {A : Option Addr} {l : List UInt8} (h : Rf w L A l) (hL : ∀ x ∈ L', x ∈ L) : Rf w L' A l := by
  rcases h with h | ⟨b, o, e, hn, hb, hc⟩
  · exact .inl h
  · exact .inr ⟨b, o, e, fun hx => hn (hL b hx), hb, hc⟩
theorem Rf.bk {w : World} {L : List Nat} {g : Nat} {t : TypeId} {l : List UInt8} (h : Bk w g t (bcells l)) (hg : g ∉ L) : Rf w L (some ⟨g, 0, none⟩) l :=
  .inr ⟨g, 0, rfl, hg, h.lt, fun i hi => by rw [h.cell, Nat.zero_add, bcells_at l i hi]⟩
theorem Rf.front {w : World} {L : List Nat} {A : Option Addr} {l : List UInt8} (h : Rf w L A l) (n : Nat) : Rf w L A (l.take n) := by
  rcases h with h | ⟨b, o, e, hn, hb, hc⟩
  · left; rw [h]; simp
  · exact .inr ⟨b, o, e, hn, hb, fun i hi => by
      have hi' : i < l.length := by rw [List.length_take] at hi; omega
      rw [hc i hi', List.getElem_take]⟩
theorem Rf.tail {w : World} {L : List Nat} {A : Option Addr} {l : List UInt8} {c : Nat} (h : Rf w L A l) (lo : Nat) (hc : l.length ≤ c) : Rf w L (tailA A c lo) (l.drop lo) := by
  by_cases h0 : l.drop lo = []
  · left; exact h0
  · have hlo : lo < l.length := by
      rcases Nat.lt_or_ge lo l.length with h1 | h1
      · exact h1
      · exact absurd (List.drop_of_length_le h1) h0
    rcases h with h | ⟨b, o, e, hn, hb, hcl⟩
    · rw [h] at hlo; simp at hlo
    · subst e
      have e2 : tailA (some ⟨b, o, none⟩) c lo = some ⟨b, o + lo, none⟩ := by
        unfold tailA
        rw [if_neg (by omega)]
        simp only [Option.map_some, Nat.mul_one, Addr.add]
        split <;> simp_all
      rw [e2]
      refine .inr ⟨b, o + lo, rfl, hn, hb, fun i hi => ?_⟩
      have hi' : lo + i < l.length := by rw [List.length_drop] at hi; omega
      have := hcl (lo + i) hi'
      rw [← Nat.add_assoc] at this
      rw [this, List.getElem_drop]

theorem tail_at (g o c lo : Nat) (h : c ≠ lo) : tailA (some ⟨g, o, none⟩) c lo = some ⟨g, o + lo, none⟩ := by
  unfold tailA
  rw [if_neg h]
  simp only [Option.map_some, Nat.mul_one, add_plain]
theorem bcells_splice (L cs : List UInt8) (o : Nat) : ((bcells L).toList.take o ++ ((bcells cs).toList ++ (bcells L).toList.drop (o + cs.length))).toArray = bcells (splice L o cs) := by
  unfold bcells splice
  simp

/-- copy into a row that is known whole, as one operation. -/
theorem op_copy {P : Program} {o : Oper} {a : Act} {K : Act → World → Prop} {Q : Exit → Act → World → Prop} {w : World} (d s : Operand) (dT sT elem : TypeId)
    (ho : o.op = .call { callee := .builtin .copy, args := #[d, s], argTypes := #[dT, sT] }) (hu : P.underlying dT = some (.slice elem)) (hsz : (P.info? elem).map (·.size) = some 1)
    (dp sp : Option Addr) (dLen dCap sLen sCap : Nat) (hd : a.eval d = .slice dp dLen dCap) (hs : a.eval s = .slice sp sLen sCap)
    (g off : Nat) (cur : List UInt8) (t : TypeId) (hg : Bk w g t (bcells cur)) (cs : List UInt8) (hn : cs.length = min sLen dLen) (hpos : 0 < cs.length → dp = some ⟨g, off, none⟩) {B : Nat} (hR : Rb w B sp cs)
    (hfit : off + cs.length ≤ cur.length) (h : K (a.put o.dst (.int .i64 (cs.length : Int))) (w.setRow g (bcells (splice cur off cs)))) : o.wp P a w K Q := by
  have hn' : cs.length = Nat.min sLen dLen := hn
  by_cases h0 : cs = []
  · subst h0
    have hrun := run_copy_none (P := P) w dT sT o.type elem dp sp dLen dCap sLen sCap hu hsz (by rw [← hn']; rfl)
    have e1 : splice cur off [] = cur := by simp [splice]
    rw [e1, setRow_self w g _ t _ hg] at h
    unfold Oper.wp
    simp [execOp, ho, resolve, invoke, builtin, hd, hs, hrun, Result.andThen]
    exact h
  · obtain rfl := hpos (List.length_pos_iff.2 h0)
    rcases hR with hR | ⟨b, o', rfl, _, hc⟩
    · exact absurd hR h0
    · have hrun := run_copy_row (P := P) w dT sT o.type elem g off dLen dCap ⟨b, o', none⟩ sLen sCap (bcells cur) t (bcells cs).toList hu hsz hg (by simpa [bcells] using hn') (fun j v hj => by
          have hlt : j < cs.length := by
            have := (List.getElem?_eq_some_iff.1 hj).1
            simpa [bcells] using this
          rw [add_plain, hc j hlt]
          simp [bcells, hlt] at hj
          exact congrArg some hj) (by simpa [bcells] using hfit) (fun v hv => by
          simp [bcells] at hv
          obtain ⟨x, _, rfl⟩ := hv
          rfl)
      have e2 : ((bcells cur).toList.take off ++ (bcells cs).toList ++ (bcells cur).toList.drop (off + (bcells cs).toList.length)).toArray = bcells (splice cur off cs) := by
        rw [← bcells_splice]
        simp [bcells]
      have e3 : goInt (bcells cs).toList.length = .int .i64 (cs.length : Int) := by simp [bcells, goInt]
      rw [e2, e3] at hrun
      unfold Oper.wp
      simp [execOp, ho, resolve, invoke, builtin, hd, hs, hrun, Result.andThen]
      exact h
end Go.Proofs.YtijboiepockmjaaDoor

/- Vaults: what the document asks, as Lean functions; what blocks of cells keep when a map turns. -/
namespace Go.Proofs.YtijboiepockmjaaDoor
set_option linter.unusedVariables false
set_option maxRecDepth 100000
set_option linter.unusedSimpArgs false
open Go.RowKit

def tkN (l : List Tn) (a b : ByteArray) : Option Tk := fK b ((l.find? fun t => nmEq t.name a).getD zeroTn).toks
def tkT (l : List Tv) (a b : ByteArray) : Option Tk := fK b ((fT a l).getD zeroTv).t.toks
theorem fT_tens (s : ByteArray) (l : List Tv) : ((fT s l).getD zeroTv).t = ((l.map (·.t)).find? fun t => nmEq t.name s).getD zeroTn := by
  unfold fT
  rw [List.find?_map]
  have : ((fun t : Tn => nmEq t.name s) ∘ fun x : Tv => x.t) = fun x : Tv => nmEq x.t.name s := rfl
  rw [this]
  cases l.find? (fun x : Tv => nmEq x.t.name s) <;> rfl
theorem tkT_is (l : List Tv) (a b : ByteArray) : tkT l a b = tkN (l.map (·.t)) a b := by
  unfold tkT tkN; rw [fT_tens]
/-- What is kept of a tenant. -/
def kpT (t : Tn) : Tn := ⟨t.name, 0, 0, [], t.toks⟩
theorem tkN_kept (l : List Tn) (a b : ByteArray) : tkN (l.map kpT) a b = tkN l a b := by
  unfold tkN
  congr 1
  rw [List.find?_map]
  have : ((fun t : Tn => nmEq t.name a) ∘ kpT) = fun t : Tn => nmEq t.name a := rfl
  rw [this]
  cases l.find? (fun t : Tn => nmEq t.name a) <;> rfl
theorem fK_name {s : ByteArray} {l : List Tk} {k : Tk} (h : fK s l = some k) : k.name = s ∧ k ∈ l := by
  unfold fK at h
  have h1 := List.find?_some h
  exact ⟨nmEq_iff.1 h1, List.mem_of_find?_eq_some h⟩
/-- The tenant that a token was found of. -/
theorem tkT_name {l : List Tv} {a b : ByteArray} {k : Tk} (h : tkT l a b = some k) : ((fT a l).getD zeroTv).t.name = a ∧ k.name = b := by
  unfold tkT at h
  refine ⟨?_, (fK_name h).1⟩
  cases hq : fT a l with
  | none => rw [hq] at h; cases h
  | some y => exact nmEq_iff.1 (fT_mem hq).2
theorem tkN_till {c : Cg} (hc : cfgB c = true) {a b : ByteArray} {k : Tk} (h : tkN c.tens a b = some k) : 0 ≤ k.till ∧ k.till ≤ 1099511627776 ∧ 1 ≤ k.sec.size ∧ k.sec.size ≤ 32 := by
  obtain ⟨_, _, _, _, _, _, h7⟩ := cfgB_parts hc
  unfold tkN at h
  cases hq : c.tens.find? (fun t => nmEq t.name a) with
  | none => rw [hq] at h; cases h
  | some y =>
    rw [hq] at h
    obtain ⟨_, _, _, _, _, _, a7⟩ := tenB_parts (h7 y (List.mem_of_find?_eq_some hq))
    have := a7 k (fK_name h).2
    unfold tokB at this
    simp only [Bool.and_eq_true, decide_eq_true_eq] at this
    omega

abbrev Rev := List (ByteArray × ByteArray)
/-- Was it revoked? -/
def inR (g : Rev) (a b : ByteArray) : Bool := g.any fun p => nmEq p.1 a && nmEq p.2 b
def gdB (o : Option Tk) (r : Bool) (now : Int) : Bool := match o with
  | none => false
  | some k => !r && decide (now < k.till)
def wnB (o : Option Tk) (a b n : ByteArray) : List UInt8 := match o with
  | none => []
  | some k => proofB k.sec.data.toList [a, b, n]
def rvB (o : Option Tk) (r : Bool) : Bool := match o with
  | none => false
  | some _ => !r
/-- What is revoked behind that. -/
def rvG (o : Option Tk) (g : Rev) (a b : ByteArray) : Rev := match o with
  | none => g
  | some _ => (a, b) :: g
def ckI (good : Bool) (want : List UInt8) (proof : ByteArray) : Int := if good = false then 3 else if want = [] ∨ want ≠ proof.data.toList then 101 else 0
theorem inR_iff {g : Rev} {a b : ByteArray} : inR g a b = true ↔ (a, b) ∈ g := by
  unfold inR
  rw [List.any_eq_true]
  constructor
  · rintro ⟨⟨x, y⟩, h, e⟩
    rw [Bool.and_eq_true, nmEq_iff, nmEq_iff] at e
    obtain ⟨rfl, rfl⟩ := e
    exact h
  · intro h
    exact ⟨(a, b), h, by rw [Bool.and_eq_true, nmEq_iff, nmEq_iff]; exact ⟨rfl, rfl⟩⟩
theorem inR_cons (a b : ByteArray) (g : Rev) (x y : ByteArray) : inR ((a, b) :: g) x y = ((nmEq a x && nmEq b y) || inR g x y) := by
  unfold inR; rw [List.any_cons]

/-! ### What stays when a map turns -/
theorem not_cell {w : World} {mb : Nat} {es : Array MapEntry} {ck : Nat} (hm : w.heap[mb]? = some (.map es ck)) (o : Nat) : w.cell? ⟨mb, o, none⟩ = none := by
  unfold World.cell?
  simp [hm]
theorem Rw.ke {β : Type} {k : Nat} {f : β → Array Value} {w w' : World} {A : Option Addr} {l : List β} {mb : Nat} {es : Array MapEntry} {ck : Nat} (hk : 0 < k) (hf : ∀ x, (f x).size = k) (h : Rw k f w A l) (K : Ke [mb] w w') (hm : w.heap[mb]? = some (.map es ck)) : Rw k f w' A l := by
  rcases h with h | ⟨b, o, e, hlt, hc⟩
  · exact .inl h
  · by_cases h0 : l = []
    · exact .inl h0
    · have hne : b ≠ mb := by
        intro e1
        subst e1
        have h1 := hc 0 (List.length_pos_iff.2 h0) 0 hk
        rw [not_cell hm, Array.getElem?_eq_getElem (by rw [hf]; exact hk)] at h1
        cases h1
      exact .inr ⟨b, o, e, Nat.lt_of_lt_of_le hlt K.size, fun i hi j hj => (World.cell?_of_block (w := w) (a := ⟨b, o + i * k + j, none⟩) (K.block b hlt (by simpa using hne))).trans (hc i hi j hj)⟩
theorem RT1.ke {w w' : World} {x : Tv} {mb : Nat} {es : Array MapEntry} {ck : Nat} (h : RT1 w x) (K : Ke [mb] w w') (hm : w.heap[mb]? = some (.map es ck)) : RT1 w' x :=
  ⟨Rw.ke (by decide) (fun _ => rfl) h.n K hm, Rw.ke (by decide) (fun _ => rfl) h.k K hm, h.fn, h.fk, h.lt, h.sz, h.szk⟩
theorem RT.ke {w w' : World} {A : Option Addr} {l : List Tv} {mb : Nat} {es : Array MapEntry} {ck : Nat} (h : RT w A l) (K : Ke [mb] w w') (hm : w.heap[mb]? = some (.map es ck)) : RT w' A l :=
  ⟨Rw.ke (by decide) (fun _ => rfl) h.r K hm, fun x hx => (h.each x hx).ke K hm⟩
theorem RC.ke {w w' : World} {x : Cv} {mb : Nat} {es : Array MapEntry} {ck : Nat} (h : RC w x) (K : Ke [mb] w w') (hm : w.heap[mb]? = some (.map es ck)) : RC w' x := ⟨h.r.ke K hm, h.f⟩
theorem Bk.keM {w w' : World} {g : Nat} {t : TypeId} {cs : Array Value} {mb : Nat} {es : Array MapEntry} {ck : Nat} (h : Bk w g t cs) (K : Ke [mb] w w') (hm : w.heap[mb]? = some (.map es ck)) : Bk w' g t cs := by
  refine h.ke K ?_
  simp only [List.mem_singleton]
  intro e
  subst e
  have h1 : w.heap[g]? = some (.cells cs t) := h
  rw [hm] at h1
  cases h1
end Go.Proofs.YtijboiepockmjaaDoor

/- Rows of structs that are whole; what stays when a row has grown. -/
namespace Go.Proofs.YtijboiepockmjaaDoor
set_option linter.unusedVariables false
set_option maxRecDepth 100000
set_option linter.unusedSimpArgs false
open Go.RowKit

theorem Bk.ty {w : World} {g g' : Nat} {t t' : TypeId} {cs cs' : Array Value} (h : Bk w g t cs) (h' : Bk w g' t' cs') (ht : t ≠ t') : g ≠ g' := by
  rintro rfl
  have := h.symm.trans h'
  injection this with this
  injection this with _ h2 _
  exact ht h2


/-- Rows that are whole, below E. -/
def Ry {β : Type} (k : Nat) (f : β → Array Value) (t : TypeId) (u : World) (E : Nat) (A : Option Addr) (l : List β) : Prop :=
  l = [] ∨ ∃ g cs, A = some ⟨g, 0, none⟩ ∧ g < E ∧ Bk u g t cs ∧ ∀ i, (h : i < l.length) → ∀ j, j < k → cs[i * k + j]? = (f l[i])[j]?
theorem Ry.rw_ {β : Type} {k : Nat} {f : β → Array Value} {t : TypeId} {u : World} {E : Nat} {A : Option Addr} {l : List β} (h : Ry k f t u E A l) : Rw k f u A l := by
  rcases h with h | ⟨g, cs, e, _, hb, hc⟩
  · exact .inl h
  · exact .inr ⟨g, 0, e, hb.lt, fun i hi j hj => by rw [hb.cell, Nat.zero_add]; exact hc i hi j hj⟩
theorem Ry.keep {β : Type} {k : Nat} {f : β → Array Value} {t : TypeId} {u u' : World} {E E' : Nat} {A : Option Addr} {l : List β} (h : Ry k f t u E A l) (hE : E ≤ E') (hk : ∀ g cs, g < E → Bk u g t cs → Bk u' g t cs) : Ry k f t u' E' A l := by
  rcases h with h | ⟨g, cs, e, hl, hb, hc⟩
  · exact .inl h
  · exact .inr ⟨g, cs, e, by omega, hk g cs hl hb, hc⟩
theorem Ow.ry {β : Type} {k : Nat} {f : β → Array Value} {e : TypeId} {u : World} {B : Nat} {A : Option Addr} {c : Nat} {l : List β} (hf : ∀ x, (f x).size = k) (h : Ow e k f u B A c l) : Ry k f e u u.heap.size A l := by
  by_cases h0 : l = []
  · exact .inl h0
  · have hp : 0 < l.length := List.length_pos_iff.2 h0
    obtain ⟨g, cap, hv, hb, hl⟩ := World.ownsRow.form h hp
    injection hv with h1 _ _
    subst h1
    obtain ⟨_, _, cs, hbk⟩ := h.block 0 g rfl
    refine .inr ⟨g, cs, rfl, hl, hbk, fun i hi j hj => ?_⟩
    have hlt : i * k + j < l.length * k := by
      have h2 : (i + 1) * k ≤ l.length * k := Nat.mul_le_mul_right k (by omega)
      rw [Nat.add_mul, Nat.one_mul] at h2
      omega
    have e1 := World.ownsRow.cellAt h (i * k + j) hlt
    rw [hbk.cell] at e1
    rw [e1, fl_at hf l i hi j hj]

theorem fl_set {β : Type} {k : Nat} {f : β → Array Value} (hf : ∀ x, (f x).size = k) (T : List β) (y y' : β) (j : Nat) (hj : j < k) (v : Value) (hv : f y' = (f y).setIfInBounds j v) : fl f (T ++ [y']) = (fl f (T ++ [y])).set (T.length * k + j) v := by
  rw [fl_app, fl_app, List.set_append_right _ _ (by rw [fl_length hf]; omega), fl_length hf, Nat.add_sub_cancel_left]
  simp [fl, hv]
/-- One cell of the last one turned. -/
theorem Ow.setLast {β : Type} {k : Nat} {f : β → Array Value} {e : TypeId} {u : World} {B g c : Nat} {T : List β} {y : β} (hf : ∀ x, (f x).size = k) (h : Ow e k f u B (some ⟨g, 0, none⟩) c (T ++ [y])) (y' : β) (j : Nat) (hj : j < k) (v : Value) (hv : f y' = (f y).setIfInBounds j v) :
    Ow e k f (u.setCell ⟨g, T.length * k + j, none⟩ v) B (some ⟨g, 0, none⟩) c (T ++ [y']) := by
  have := (World.ownsRow.stored h (T.length * k + j) v).1
  unfold Ow
  rw [fl_set hf T y y' j hj v hv, List.length_append, List.length_singleton]
  rw [List.length_append, List.length_singleton] at this
  exact this

theorem ncs_size : ∀ x : Nt, (ncs x).size = 2 := fun _ => rfl
theorem kcs_size : ∀ x : Tk, (kcs x).size = 3 := fun _ => rfl
theorem tcs_size : ∀ x : Tv, (tcs x).size = 5 := fun _ => rfl
structure Fz (u : World) (E : Nat) (y : Tv) : Prop where
  n : Ry 2 ncs 93 u E y.An y.t.nets
  k : Ry 3 kcs 48 u E y.Ak y.t.toks
  fn : Fit y.An y.t.nets.length y.cn
  fk : Fit y.Ak y.t.toks.length y.ck
structure Lz (u : World) (E : Nat) (y : Tv) : Prop where
  n : ON u E y.An y.cn y.t.nets
  k : OK u E y.Ak y.ck y.t.toks
structure Sm (y : Tv) : Prop where
  lt : ∀ n ∈ y.t.nets, n.addr < 4294967296
  sz : y.t.name.size ≤ 140737488355328
  szk : ∀ k ∈ y.t.toks, k.name.size ≤ 140737488355328 ∧ k.sec.size ≤ 140737488355328

/-- Blocks of other types stay when a row has grown. -/
theorem grown_ty {β : Type} {u u' : World} {B' : Nat} {e t : TypeId} {k n c : Nat} {f : β → Array Value} {A : Option Addr} {l : List β} (hg : u.grownBy u' (Value.slice A n c).ownBlock) (ho : Ow e k f u B' A c l) {g : Nat} {cs : Array Value} (hb : Bk u g t cs) (h : t ≠ e ∨ g < B') : Bk u' g t cs := by
  refine (hg.block g hb.lt (fun e' => ?_)).trans hb
  obtain ⟨h1, _, cs', h2⟩ := ho.block n g e'.symm
  rcases h with h | h
  · exact hb.ty h2 h rfl
  · omega

end Go.Proofs.YtijboiepockmjaaDoor

/- Regions that draw their order, and whose last operation (all others wait to be ahead of it) writes what earlier ones read: the condition on worlds need not hold behind that one. The law's proof goes the way of the kit's own one (Derived/OrdersHeld), with a chain of operations more. Nothing of the program is named here. -/
namespace Go.Proofs.YtijboiepockmjaaDoor
set_option linter.unusedVariables false
set_option maxRecDepth 100000
set_option linter.unusedSimpArgs false

section
variable {P : Program} {ops : Array Oper} {Q : Exit → Act → World → Prop} {md : Region.Mode} {S : World → Prop} {z : Nat}

def wpAnyL (P : Program) (md : Region.Mode) (ops : Array Oper) (Q : Exit → Act → World → Prop) (S : World → Prop) (z : Nat) : Nat → Array Bool → Act → World → Prop
  | 0, listed, a, w => Region.ready md ops listed = [] ∧ Q .normal a w
  | fuel + 1, listed, a, w =>
    (Region.ready md ops listed = [] → Q .normal a w) ∧
    ∀ i ∈ Region.ready md ops listed, wpOp P ops Q i (fun a' w' => (i ≠ z → S w') ∧ wpAnyL P md ops Q S z fuel (listed.setIfInBounds i true) a' w') a w

theorem wpAny_of_L : ∀ (fuel : Nat) (listed : Array Bool) (a : Act) (w : World), wpAnyL P md ops Q S z fuel listed a w → wpAny P md ops Q fuel listed a w
  | 0, _, _, _, h => h
  | fuel + 1, _, _, _, h => ⟨h.1, fun i hi => wpOp_mono (fun a' w' h' => wpAny_of_L fuel _ a' w' h'.2) (h.2 i hi)⟩

/-- Number z waits for i, by a chain of operations none of which has come up. -/
def chainB (md : Region.Mode) (ops : Array Oper) (listed : Array Bool) (i z : Nat) (cs : List Nat) : Bool :=
  cs.contains z && cs.all fun c => !(listed.getD c true) && (match ops[c]? with
    | some o => o.after.any fun e => Region.binds md e && (e.on == i || cs.contains e.on)
    | none => false)
structure Chain (md : Region.Mode) (ops : Array Oper) (listed : Array Bool) (i z : Nat) (cs : List Nat) : Prop where
  z : z ∈ cs
  un : ∀ c ∈ cs, listed.getD c true = false
  on : ∀ c ∈ cs, ∃ o, ops[c]? = some o ∧ ∃ e ∈ o.after, Region.binds md e = true ∧ (e.on = i ∨ e.on ∈ cs)
theorem Chain.of {listed : Array Bool} {i : Nat} {cs : List Nat} (h : chainB md ops listed i z cs = true) : Chain md ops listed i z cs := by
  unfold chainB at h
  rw [Bool.and_eq_true, List.all_eq_true] at h
  refine ⟨by simpa using h.1, fun c hc => ?_, fun c hc => ?_⟩
  · have := h.2 c hc
    rw [Bool.and_eq_true] at this
    simpa using this.1
  · have := h.2 c hc
    rw [Bool.and_eq_true] at this
    cases ho : ops[c]? with
    | none => rw [ho] at this; exact absurd this.2 (by simp)
    | some o =>
      rw [ho] at this
      have h3 := this.2
      dsimp only at h3
      rw [← Array.any_toList, List.any_eq_true] at h3
      obtain ⟨e, he, h2⟩ := h3
      have he : e ∈ o.after := by simpa using he
      rw [Bool.and_eq_true, Bool.or_eq_true] at h2
      exact ⟨o, rfl, e, he, h2.1, by simpa using h2.2⟩
theorem not_both {listed : Array Bool} {k : Nat} (h0 : listed.getD k true = false) (h1 : listed.getD k false = true) : False := by
  rcases Nat.lt_or_ge k listed.size with h' | h'
  · simp [h'] at h0 h1; rw [h0] at h1; cases h1
  · simp [Array.getElem?_eq_none h'] at h1
theorem Chain.not_ready {listed : Array Bool} {i j : Nat} {cs : List Nat} (h : Chain md ops listed i z cs) (hi : i ∈ Region.ready md ops listed) (hj : j ∈ Region.ready md ops listed) : j ∉ cs := fun hc => by
  obtain ⟨o, ho, e, he, hb, hon⟩ := h.on j hc
  obtain ⟨_, o', ho', hall⟩ := mem_ready.1 hj
  rw [ho] at ho'
  injection ho' with ho'
  subst ho'
  have h1 := hall e he hb
  rcases hon with hon | hon
  · rw [hon] at h1; exact not_both (mem_ready.1 hi).1 h1
  · exact not_both (h.un _ hon) h1
theorem Chain.next {listed : Array Bool} {i j : Nat} {cs : List Nat} (h : Chain md ops listed i z cs) (hj : j ∉ cs) : Chain md ops (listed.setIfInBounds j true) i z cs :=
  ⟨h.z, fun c hc => by rw [getD_set_ne true (fun e : j = c => hj (by rw [e]; exact hc))]; exact h.un c hc, h.on⟩

theorem wpAnyL_first {i : Nat} {oi : Oper} {v : Value} {cs : List Nat} (hi : ops[i]? = some oi) (hsel : ∀ (j : Nat) (o : Oper) cs b, ops[j]? = some o → o.op ≠ .select cs b)
    (hQ : ∀ c a w, Q (.panic c) (a.put oi.dst v) w → Q (.panic c) a w) :
    ∀ (fuel : Nat) (listed : Array Bool) (a : Act) (w : World),
      (∀ j oj, ops[j]? = some oj → j ≠ i → listed.getD j true = false → (∀ e ∈ oj.after, Region.binds md e = true → e.on ≠ i) → oi.apart ops oj = true) →
      i ∈ Region.ready md ops listed → Chain md ops listed i z cs → YieldsIf P ops S oi v a → S w →
      wpAnyL P md ops Q S z fuel (listed.setIfInBounds i true) (a.put oi.dst v) w → wpAnyL P md ops Q S z (fuel + 1) listed a w := by
  intro fuel
  induction fuel with
  | zero =>
    intro listed a w _ hr _ hy hS H
    refine ⟨fun h => (by rw [h] at hr; cases hr), fun j hj => ?_⟩
    by_cases hji : j = i
    · subst hji; exact hy.wpOp hi hS ⟨fun _ => hS, H⟩
    · have := ready_mono hj hji
      rw [H.1] at this
      cases this
  | succ fuel ih =>
    intro listed a w hfree hr hC hy hS H
    refine ⟨fun h => (by rw [h] at hr; cases hr), fun j hj => ?_⟩
    by_cases hji : j = i
    · subst hji; exact hy.wpOp hi hS ⟨fun _ => hS, H⟩
    · have h1 := H.2 j (ready_mono hj hji)
      obtain ⟨hjun, oj, hoj, hall⟩ := mem_ready.1 hj
      have hjc := hC.not_ready hr hj
      have hjz : j ≠ z := fun e => hjc (e ▸ hC.z)
      have hnot : ∀ e ∈ oj.after, Region.binds md e = true → e.on ≠ i := fun e he hb heq => by
        have h1 := hall e he hb
        rw [heq] at h1
        exact not_both (mem_ready.1 hr).1 h1
      have h2 := wpOp_putIf hoj (hfree j oj hoj hji hjun hnot) (fun cs b => hsel i oi cs b hi) (fun cs b => hsel j oj cs b hoj) hQ hy h1
      have hfree' : ∀ k ok, ops[k]? = some ok → k ≠ i → (listed.setIfInBounds j true).getD k true = false →
          (∀ e ∈ ok.after, Region.binds md e = true → e.on ≠ i) → oi.apart ops ok = true := fun k ok hk hki hun hno => by
        refine hfree k ok hk hki ?_ hno
        by_cases hjk : j = k
        · subst hjk; exact hjun
        · rw [getD_set_ne true hjk] at hun; exact hun
      refine wpOp_mono (fun a' w' h3 => ⟨h3.2.1, ih (listed.setIfInBounds j true) a' w' hfree' (ready_mono hr (Ne.symm hji)) (hC.next hjc) h3.1 (h3.2.1 hjz) ?_⟩) h2
      rw [Array.setIfInBounds_comm _ _ hji]
      exact h3.2.2

theorem takeL {i : Nat} (d : Option Tmp) (cs : List Nat) {oi : Oper} {v : Value} {fuel : Nat} {listed : Array Bool} {a : Act} {w : World} (hi : ops[i]? = some oi)
    (hd : oi.dst = d) (hs : Region.noSelect ops = true) (hf : Region.free md ops listed i = true) (hr : (Region.ready md ops listed).contains i = true) (hc : chainB md ops listed i z cs = true)
    (hQ : ∀ c a w, Q (.panic c) (a.put oi.dst v) w → Q (.panic c) a w) (hy : YieldsIf P ops S oi v a) (hS : S w)
    (h : wpAnyL P md ops Q S z fuel (listed.setIfInBounds i true) (a.put d v) w) : wpAnyL P md ops Q S z (fuel + 1) listed a w := by
  subst hd
  exact wpAnyL_first hi (Region.noSelect_spec hs) hQ fuel listed a w (Region.free_spec hi hf) (by simpa using hr) (Chain.of hc) hy hS h

def AllReadyL (P : Program) (md : Region.Mode) (ops : Array Oper) (Q : Exit → Act → World → Prop) (S : World → Prop) (z fuel : Nat) (listed : Array Bool) (a : Act) (w : World) (rs : List Nat) : Prop :=
  ∀ i ∈ rs, wpOp P ops Q i (fun a' w' => (i ≠ z → S w') ∧ wpAnyL P md ops Q S z fuel (listed.setIfInBounds i true) a' w') a w
theorem AllReadyL.nil {fuel : Nat} {listed : Array Bool} {a : Act} {w : World} : AllReadyL P md ops Q S z fuel listed a w [] := fun _ h => by cases h
theorem AllReadyL.cons {fuel : Nat} {listed : Array Bool} {a : Act} {w : World} {i : Nat} {o : Oper} {rs : List Nat} (ho : ops[i]? = some o)
    (h : ∀ K' : Act → World → Prop, Shut (∀ a w, S w → (S w → wpAnyL P md ops Q S z fuel (listed.setIfInBounds i true) a w) → K' a w) → if Region.wanted o (yielded ops a.tmps) = true then Oper.wp P o a w K' Q else K' (a.put o.dst undef) w)
    (hs : AllReadyL P md ops Q S z fuel listed a w rs) : AllReadyL P md ops Q S z fuel listed a w (i :: rs) := fun j hj => by
  rcases List.mem_cons.1 hj with rfl | hj
  · exact wpOp_step ho (fun K' hK => h K' (fun a w hS hW => hK a w ⟨fun _ => hS, hW hS⟩))
  · exact hs j hj
/-- The last one: nothing is to be shown behind it. -/
theorem AllReadyL.last {fuel : Nat} {listed : Array Bool} {a : Act} {w : World} {o : Oper} (ho : ops[z]? = some o)
    (h : ∀ K' : Act → World → Prop, Shut (∀ a w, wpAnyL P md ops Q S z fuel (listed.setIfInBounds z true) a w → K' a w) → if Region.wanted o (yielded ops a.tmps) = true then Oper.wp P o a w K' Q else K' (a.put o.dst undef) w) : AllReadyL P md ops Q S z fuel listed a w [z] := fun j hj => by
  rcases List.mem_cons.1 hj with rfl | hj
  · exact wpOp_step ho (fun K' hK => h K' (fun a w hW => hK a w ⟨fun e => absurd rfl e, hW⟩))
  · cases hj
theorem wpAnyL_ready {rs : List Nat} {fuel : Nat} {listed : Array Bool} {a : Act} {w : World} (hr : Region.ready md ops listed = rs) (hne : rs ≠ [])
    (h : AllReadyL P md ops Q S z fuel listed a w rs) : wpAnyL P md ops Q S z (fuel + 1) listed a w := ⟨fun h0 => absurd (hr ▸ h0) hne, hr ▸ h⟩
theorem wpAnyL_done {listed : Array Bool} {a : Act} {w : World} (hr : Region.ready md ops listed = []) (h : Q .normal a w) :
    ∀ fuel, wpAnyL P md ops Q S z fuel listed a w
  | 0 => ⟨hr, h⟩
  | _ + 1 => ⟨fun _ => h, by rw [hr]; simp⟩
theorem wp_region_L (z : Nat) {id : Nat} {a : Act} {w : World} (hm : P.follows .mixedOrders = true) (hS : S w.drew)
    (h : S w.drew → wpAnyL P .any ops Q S z ops.size (Array.replicate ops.size false) a w.drew) : (Code.region id ops true).wp P Q a w :=
  wp_region_any hm (wpAny_of_L _ _ _ _ (h hS))
end
end Go.Proofs.YtijboiepockmjaaDoor

/- vault.kept: its contract. (Written by gen_vt1.py.) -/
namespace Go.Proofs.YtijboiepockmjaaDoor
set_option linter.unusedVariables false
set_option maxRecDepth 100000
set_option linter.unusedSimpArgs false
open Go.RowKit

theorem gen_anyL {P : Program} {md : Region.Mode} {ops : Array Oper} {Q : Exit → Act → World → Prop} {S' : World → Prop} {z fuel : Nat} {listed : Array Bool} {a : Act} {w : World} (S : World → Prop) (hS : S w) (h : ∀ u, S u → wpAnyL P md ops Q S' z fuel listed a u) : wpAnyL P md ops Q S' z fuel listed a w := h w hS
theorem gen_qL {Q : Exit → Act → World → Prop} {e : Exit} {a : Act} {w : World} (S : World → Prop) (hS : S w) (h : ∀ u, S u → Q e a u) : Q e a w := h w hS
theorem gen_wK {C : World → Prop} {w : World} (S : World → Prop) (hS : S w) (h : ∀ u, S u → C u) : C w := h w hS
theorem Fz.rt {u : World} {E : Nat} {y : Tv} (h : Fz u E y) (s : Sm y) : RT1 u y := ⟨h.n.rw_, h.k.rw_, h.fn, h.fk, s.lt, s.sz, s.szk⟩
theorem Fz.on {u u' : World} {E : Nat} {y : Tv} (h : Fz u E y) (hb : Below u.heap.size u u') : Fz u' E y :=
  ⟨h.n.keep (Nat.le_refl _) (fun g cs _ hk => hk.below hb hk.lt), h.k.keep (Nat.le_refl _) (fun g cs _ hk => hk.below hb hk.lt), h.fn, h.fk⟩
theorem Fz.far {u : World} {E : Nat} {y : Tv} (h : Fz u E y) {p : Addr} {cs : Array Value} (hp : Bk u p.block 24 cs) (v : Value) : Fz (u.setCell p v) E y :=
  ⟨h.n.keep (Nat.le_refl _) (fun g cs _ hk => hk.far (hk.ty hp (by decide)) v), h.k.keep (Nat.le_refl _) (fun g cs _ hk => hk.far (hk.ty hp (by decide)) v), h.fn, h.fk⟩
/-- What was kept so far. -/
def KpT (u : World) (T : List Tv) : Prop := ∀ y ∈ T, ∃ E, Fz u E y ∧ Sm y
theorem KpT.on {u u' : World} {T : List Tv} (h : KpT u T) (hb : Below u.heap.size u u') : KpT u' T := fun y hy => by
  obtain ⟨E, h1, h2⟩ := h y hy
  exact ⟨E, h1.on hb, h2⟩
theorem KpT.grown {u u' : World} {T : List Tv} {B' n c : Nat} {A : Option Addr} {l : List Tv} (h : KpT u T) (hg : u.grownBy u' (Value.slice A n c).ownBlock) (ho : Ow 44 5 tcs u B' A c l) : KpT u' T := fun y hy => by
  obtain ⟨E, h1, h2⟩ := h y hy
  exact ⟨E, ⟨h1.n.keep (Nat.le_refl _) (fun g cs _ hk => grown_ty hg ho hk (.inl (by decide))), h1.k.keep (Nat.le_refl _) (fun g cs _ hk => grown_ty hg ho hk (.inl (by decide))), h1.fn, h1.fk⟩, h2⟩
theorem KpT.far {u : World} {T : List Tv} (h : KpT u T) {p : Addr} {cs : Array Value} (hp : Bk u p.block 24 cs) (v : Value) : KpT (u.setCell p v) T := fun y hy => by
  obtain ⟨E, h1, h2⟩ := h y hy
  exact ⟨E, h1.far hp v, h2⟩
theorem KpT.rt {u : World} {T : List Tv} (h : KpT u T) : ∀ y ∈ T, RT1 u y := fun y hy => by
  obtain ⟨E, h1, h2⟩ := h y hy
  exact h1.rt h2
theorem KpT.snoc {u : World} {T : List Tv} (h : KpT u T) {y : Tv} {E : Nat} (h1 : Fz u E y) (h2 : Sm y) : KpT u (T ++ [y]) := fun z hz => by
  rcases List.mem_append.1 hz with hz | hz
  · exact h z hz
  · obtain rfl := List.mem_singleton.1 hz
    exact ⟨E, h1, h2⟩

set_option maxRecDepth 100000 in
set_option maxHeartbeats 8000000 in
theorem kept_ok (x : Cv) (w : World) (h : RC w x) (hf : x.ts.length ≤ 1099511626) (hfew : ∀ y ∈ x.ts, y.t.toks.length ≤ 1099511627776) :
    Calls Tryd.prog 27 #[.agg (ccs x)] w fun e w' => ∃ ts' A' c', e = .returned (.agg #[.int .i64 0, .int .i64 0, .int .i64 0, .int .i64 0, .slice A' x.ts.length c']) ∧ ts'.map (·.t) = x.ts.map (fun y => kpT y.t) ∧ RC w' ⟨0, 0, 0, 0, ts', A', c'⟩ ∧ (∀ y ∈ ts', y.t.nets.length ≤ 1099511627776 ∧ y.t.toks.length ≤ 1099511627776) ∧ Below w.heap.size w w' := by
  obtain ⟨a0, a1, a2, a3, ts, A, c⟩ := x
  dsimp only at hf hfew ⊢
  obtain ⟨n, hn⟩ : ∃ n, ts.length = n := ⟨_, rfl⟩
  have HRT := Lib.hid h.r
  have HN := Lib.hid hn
  have HFW := Lib.hid hfew
  have HF := Lib.hid (show n ≤ 1099511626 by rw [← hn]; exact hf)
  simp only [ccs, hn]
  have hn9 : n ≤ 9223372036854775807 := by have := HF.out; omega
  have H1 := Lib.hid (show Bk (((w.alloc (.cells #[.int .i64 a0, .int .i64 a1, .int .i64 a2, .int .i64 a3, .slice A n c] 24)).alloc (.cells #[.int .i64 0, .int .i64 0, .int .i64 0, .int .i64 0, .slice none 0 0] 24)).alloc (.cells #[.int .i64 0, .int .i64 0, .int .i64 0, .int .i64 0, .slice none 0 0] 24)) (w.heap.size + 1) 24 #[.int .i64 0, .int .i64 0, .int .i64 0, .int .i64 0, .slice none 0 0] by have := (Bk.new (w.alloc (.cells #[.int .i64 a0, .int .i64 a1, .int .i64 a2, .int .i64 a3, .slice A n c] 24)) 24 #[.int .i64 0, .int .i64 0, .int .i64 0, .int .i64 0, .slice none 0 0]).alloc (.cells #[.int .i64 0, .int .i64 0, .int .i64 0, .int .i64 0, .slice none 0 0] 24); rwa [World.size_alloc] at this)
  have H2 := Lib.hid (show Bk (((w.alloc (.cells #[.int .i64 a0, .int .i64 a1, .int .i64 a2, .int .i64 a3, .slice A n c] 24)).alloc (.cells #[.int .i64 0, .int .i64 0, .int .i64 0, .int .i64 0, .slice none 0 0] 24)).alloc (.cells #[.int .i64 0, .int .i64 0, .int .i64 0, .int .i64 0, .slice none 0 0] 24)) (w.heap.size + 2) 24 #[.int .i64 0, .int .i64 0, .int .i64 0, .int .i64 0, .slice none 0 0] by have := Bk.new ((w.alloc (.cells #[.int .i64 a0, .int .i64 a1, .int .i64 a2, .int .i64 a3, .slice A n c] 24)).alloc (.cells #[.int .i64 0, .int .i64 0, .int .i64 0, .int .i64 0, .slice none 0 0] 24)) 24 #[.int .i64 0, .int .i64 0, .int .i64 0, .int .i64 0, .slice none 0 0]; rwa [World.size_alloc, World.size_alloc] at this)
  have HS := Lib.hid (show w.heap.size + 3 ≤ (((w.alloc (.cells #[.int .i64 a0, .int .i64 a1, .int .i64 a2, .int .i64 a3, .slice A n c] 24)).alloc (.cells #[.int .i64 0, .int .i64 0, .int .i64 0, .int .i64 0, .slice none 0 0] 24)).alloc (.cells #[.int .i64 0, .int .i64 0, .int .i64 0, .int .i64 0, .slice none 0 0] 24)).heap.size by rw [World.size_alloc, World.size_alloc, World.size_alloc]; omega)
  have HL := Lib.hid (show Below w.heap.size w (((w.alloc (.cells #[.int .i64 a0, .int .i64 a1, .int .i64 a2, .int .i64 a3, .slice A n c] 24)).alloc (.cells #[.int .i64 0, .int .i64 0, .int .i64 0, .int .i64 0, .slice none 0 0] 24)).alloc (.cells #[.int .i64 0, .int .i64 0, .int .i64 0, .int .i64 0, .slice none 0 0] 24)) from (((Below.refl w.heap.size w).alloc (Nat.le_refl _) _).alloc (by rw [World.size_alloc]; omega) _).alloc (by rw [World.size_alloc, World.size_alloc]; omega) _)
  clear h hn hf hfew
  go_enter Tryd.func27, Tryd.ntmps27
  go_wp2
  obtain ⟨v0, hv0⟩ : ∃ v, ((w.alloc (.cells #[.int .i64 a0, .int .i64 a1, .int .i64 a2, .int .i64 a3, .slice A n c] 24)).alloc (.cells #[.int .i64 0, .int .i64 0, .int .i64 0, .int .i64 0, .slice none 0 0] 24)).alloc (.cells #[.int .i64 0, .int .i64 0, .int .i64 0, .int .i64 0, .slice none 0 0] 24) = v := ⟨_, rfl⟩
  rw [hv0] at H1 H2 HL HS
  try rw [hv0]
  clear hv0
  go_loopw [9] (fun v9 wr => ∃ (i : Nat) (T : List Tv) (A' : Option Addr) (c' : Nat), i ≤ n ∧ v9 = .int .i64 (i : Int) ∧ Hid (T.length = i ∧ T.map (·.t) = (ts.take i).map fun y => kpT y.t) ∧ Hid (Bk wr (w.heap.size + 2) 24 #[.int .i64 0, .int .i64 0, .int .i64 0, .int .i64 0, .slice A' i c']) ∧ Hid (Bk wr (w.heap.size + 1) 24 #[.int .i64 0, .int .i64 0, .int .i64 0, .int .i64 0, .slice none 0 0]) ∧ Hid (Ow 44 5 tcs wr (w.heap.size + 3) A' c' T) ∧ Hid (KpT wr T) ∧ Hid (Below w.heap.size w wr ∧ w.heap.size + 3 ≤ wr.heap.size)) (fun v9 _ => n - (intOf v9).toNat)
  case atStart => exact ⟨0, [], none, 0, by omega, rfl, Lib.hid ⟨rfl, rfl⟩, H2, H1, Lib.hid (Ow.nil _ _), Lib.hid (fun y hy => by cases hy), Lib.hid ⟨HL.out, HS.out⟩⟩
  case round =>
    obtain ⟨i, T, A', c', hi, rfl, HT, HO, HZ, HOW, HKP, HB⟩ := hrel
    by_cases hi1 : i < n
    · have hi2 : (i : Int) < (n : Int) := by omega
      obtain ⟨b, o, x, rfl, hx, hx1, hc⟩ := HRT.out.at5 i (by rw [HN.out]; exact hi1)
      obtain ⟨c0, c1, c2, c3, c4⟩ := hc wr HB.out.1
      have HX := Lib.hid hx
      have HX1 := Lib.hid hx1
      have hmem := List.mem_of_getElem? hx
      have HFX := Lib.hid (HFW.out x hmem)
      clear hc hx hx1 hmem
      obtain ⟨⟨xn, xa, xb, nl, kl⟩, An, cn, Ak, ck⟩ := x
      dsimp only at c0 c1 c2 c3 c4 HFX
      obtain ⟨m, hm⟩ : ∃ m, kl.length = m := ⟨_, rfl⟩
      have HM := Lib.hid hm
      simp only [hm] at c4
      rw [hm] at HFX
      clear hm
      go_upto_region 5 with fail
      try simp only [List.cons_append, List.nil_append]
      obtain ⟨v1, hv1⟩ : ∃ v, wr.alloc (.cells #[.string xn, .int .i64 xa, .int .i64 xb, .slice An nl.length cn, .slice Ak m ck] 44) = v := ⟨_, rfl⟩
      obtain ⟨g5, hg5⟩ : ∃ g, wr.heap.size = g := ⟨_, rfl⟩
      have HQ := Lib.hid (show Bk v1 g5 44 #[.string xn, .int .i64 xa, .int .i64 xb, .slice An nl.length cn, .slice Ak m ck] ∧ Bk v1 (w.heap.size + 2) 24 #[.int .i64 0, .int .i64 0, .int .i64 0, .int .i64 0, .slice A' i c'] ∧ Bk v1 (w.heap.size + 1) 24 #[.int .i64 0, .int .i64 0, .int .i64 0, .int .i64 0, .slice none 0 0] ∧ Ow 44 5 tcs v1 (w.heap.size + 3) A' c' T ∧ KpT v1 T ∧ Below w.heap.size w v1 ∧ w.heap.size + 3 ≤ g5 ∧ (∀ n g, (Value.slice A' n c').ownBlock = some g → g < g5) ∧ g5 < v1.heap.size from by
        rw [← hv1, ← hg5]
        have hb := (Below.refl wr.heap.size wr).alloc (Nat.le_refl _) (.cells #[.string xn, .int .i64 xa, .int .i64 xb, .slice An nl.length cn, .slice Ak m ck] 44)
        exact ⟨Bk.new _ _ _, HO.out.below hb HO.out.lt, HZ.out.below hb HZ.out.lt, HOW.out.on hb, HKP.out.on hb, HB.out.1.trans (hb.mono HB.out.1.size), HB.out.2, fun k g hg => (HOW.out.block k g hg).2.1, by rw [World.size_alloc]; omega⟩)
      rw [hv1] ; try rw [hg5]
      clear hv1 hg5 c0 c1 c2 c3 c4 HO HZ HOW HKP HB
      refine wp_region_L (S := fun u => Below w.heap.size w u ∧ Bk u (w.heap.size + 2) 24 #[.int .i64 0, .int .i64 0, .int .i64 0, .int .i64 0, .slice A' i c'] ∧ Bk u g5 44 #[.string xn, .int .i64 xa, .int .i64 xb, .slice An nl.length cn, .slice Ak m ck] ∧ w.heap.size + 3 ≤ u.heap.size) 11 (by kernel_rfl) ⟨HQ.out.2.2.2.2.2.1.drew, HQ.out.2.1.drew, HQ.out.1.drew, (by have := HQ.out.2.2.2.2.2.2.1; have := HQ.out.2.2.2.2.2.2.2.2; show w.heap.size + 3 ≤ v1.heap.size; omega)⟩ (fun hHeld => ?_)
      refine takeL (some 13) [11] (i := 0) (v := ?_) rfl rfl (by kernel_rfl) (by kernel_rfl) (by kernel_rfl) (by kernel_rfl) (fun _ _ _ h => h) (Or.inl ⟨by kernel_rfl, ?_⟩) hHeld ?_
      rotate_left
      · intro wz hSw; go_simp; try (with_reducible rfl)
      try simp only [Act.put, List.setIfInBounds_toArray, List.set_cons_zero, List.set_cons_succ, List.getElem_toArray, List.getElem_cons_succ, List.getElem_cons_zero]
      refine takeL (some 14) [11] (i := 1) (v := ?_) rfl rfl (by kernel_rfl) (by kernel_rfl) (by kernel_rfl) (by kernel_rfl) (fun _ _ _ h => h) (Or.inl ⟨by kernel_rfl, ?_⟩) hHeld ?_
      rotate_left
      · intro wz hSw; obtain ⟨_, s2, s5, _⟩ := hSw; have q4 : wz.cell? ⟨w.heap.size + 2, 4, none⟩ = some (.slice A' i c') := s2.cell 4; go_simp; try (with_reducible rfl)
      try simp only [Act.put, List.setIfInBounds_toArray, List.set_cons_zero, List.set_cons_succ, List.getElem_toArray, List.getElem_cons_succ, List.getElem_cons_zero]
      refine takeL (some 15) [11] (i := 2) (v := ?_) rfl rfl (by kernel_rfl) (by kernel_rfl) (by kernel_rfl) (by kernel_rfl) (fun _ _ _ h => h) (Or.inl ⟨by kernel_rfl, ?_⟩) hHeld ?_
      rotate_left
      · intro wz hSw; go_simp; try (with_reducible rfl)
      try simp only [Act.put, List.setIfInBounds_toArray, List.set_cons_zero, List.set_cons_succ, List.getElem_toArray, List.getElem_cons_succ, List.getElem_cons_zero]
      refine takeL (some 16) [11] (i := 3) (v := ?_) rfl rfl (by kernel_rfl) (by kernel_rfl) (by kernel_rfl) (by kernel_rfl) (fun _ _ _ h => h) (Or.inl ⟨by kernel_rfl, ?_⟩) hHeld ?_
      rotate_left
      · intro wz hSw; obtain ⟨_, s2, s5, _⟩ := hSw; have r0 : wz.cell? ⟨g5, 0, none⟩ = some (.string xn) := s5.cell 0; have r4 : wz.cell? ⟨g5, 4, none⟩ = some (.slice Ak m ck) := s5.cell 4; go_simp; try (with_reducible rfl)
      try simp only [Act.put, List.setIfInBounds_toArray, List.set_cons_zero, List.set_cons_succ, List.getElem_toArray, List.getElem_cons_succ, List.getElem_cons_zero]
      refine takeL (some 17) [11] (i := 4) (v := ?_) rfl rfl (by kernel_rfl) (by kernel_rfl) (by kernel_rfl) (by kernel_rfl) (fun _ _ _ h => h) (Or.inl ⟨by kernel_rfl, ?_⟩) hHeld ?_
      rotate_left
      · intro wz hSw; go_simp; try (with_reducible rfl)
      try simp only [Act.put, List.setIfInBounds_toArray, List.set_cons_zero, List.set_cons_succ, List.getElem_toArray, List.getElem_cons_succ, List.getElem_cons_zero]
      refine takeL (some 18) [11] (i := 5) (v := ?_) rfl rfl (by kernel_rfl) (by kernel_rfl) (by kernel_rfl) (by kernel_rfl) (fun _ _ _ h => h) (Or.inl ⟨by kernel_rfl, ?_⟩) hHeld ?_
      rotate_left
      · intro wz hSw; obtain ⟨_, s2, s5, _⟩ := hSw; have r0 : wz.cell? ⟨g5, 0, none⟩ = some (.string xn) := s5.cell 0; have r4 : wz.cell? ⟨g5, 4, none⟩ = some (.slice Ak m ck) := s5.cell 4; go_simp; try (with_reducible rfl)
      try simp only [Act.put, List.setIfInBounds_toArray, List.set_cons_zero, List.set_cons_succ, List.getElem_toArray, List.getElem_cons_succ, List.getElem_cons_zero]
      refine wpAnyL_ready (rs := [6]) (by kernel_rfl) (by simp) (AllReadyL.cons rfl (fun K hK => ?_) AllReadyL.nil)
      rw [if_pos (by kernel_rfl)]
      go_simp
      refine (cloneK_ok Ak kl m ck _ (HX1.out.k.on hHeld.1) (by have := HX1.out.fk; dsimp only at this; rwa [HM.out] at this) HM.out HFX.out).mono ?_
      rintro e u2 ⟨A2, c2, rfl, ho2, hb2⟩
      try dsimp only
      refine gen_wK (fun u => (Below w.heap.size w u ∧ Bk u (w.heap.size + 2) 24 #[.int .i64 0, .int .i64 0, .int .i64 0, .int .i64 0, .slice A' i c'] ∧ Bk u g5 44 #[.string xn, .int .i64 xa, .int .i64 xb, .slice An nl.length cn, .slice Ak m ck] ∧ w.heap.size + 3 ≤ u.heap.size) ∧ OK u v1.heap.size A2 c2 kl ∧ Ow 44 5 tcs u (w.heap.size + 3) A' c' T ∧ KpT u T ∧ Bk u (w.heap.size + 1) 24 #[.int .i64 0, .int .i64 0, .int .i64 0, .int .i64 0, .slice none 0 0] ∧ v1.heap.size ≤ u.heap.size) ⟨⟨hHeld.1.trans (hb2.mono hHeld.1.size), hHeld.2.1.below hb2 hHeld.2.1.lt, hHeld.2.2.1.below hb2 hHeld.2.2.1.lt, Nat.le_trans hHeld.2.2.2 hb2.size⟩, ho2, (Ow.on (w' := v1.drew) HQ.out.2.2.2.1 ((Below.refl _ _).drew)).on hb2, (KpT.on (u' := v1.drew) HQ.out.2.2.2.2.1 ((Below.refl _ _).drew)).on hb2, HQ.out.2.2.1.drew.below hb2 HQ.out.2.2.1.drew.lt, hb2.size⟩ (fun u3 h3 => ?_)
      clear hHeld ho2 hb2
      refine hK.out _ _ h3.1 (fun hHeld => ?_)
      try simp only [Act.put, List.setIfInBounds_toArray, List.set_cons_zero, List.set_cons_succ, List.getElem_toArray, List.getElem_cons_succ, List.getElem_cons_zero]
      refine takeL (some 20) [11] (i := 7) (v := ?_) rfl rfl (by kernel_rfl) (by kernel_rfl) (by kernel_rfl) (by kernel_rfl) (fun _ _ _ h => h) (Or.inl ⟨by kernel_rfl, ?_⟩) hHeld ?_
      rotate_left
      · intro wz hSw; go_simp; try (with_reducible rfl)
      try simp only [Act.put, List.setIfInBounds_toArray, List.set_cons_zero, List.set_cons_succ, List.getElem_toArray, List.getElem_cons_succ, List.getElem_cons_zero]
      refine wpAnyL_ready (rs := [8]) (by kernel_rfl) (by simp) (AllReadyL.cons rfl (fun K hK => ?_) AllReadyL.nil)
      rw [if_pos (by kernel_rfl)]
      go_simp
      refine hK.out _ _ ⟨hHeld.1.alloc hHeld.1.size _, hHeld.2.1.alloc _, hHeld.2.2.1.alloc _, by rw [World.size_alloc]; exact Nat.le_succ_of_le hHeld.2.2.2⟩ (fun hHeld => ?_)
      try simp only [Act.put, List.setIfInBounds_toArray, List.set_cons_zero, List.set_cons_succ, List.getElem_toArray, List.getElem_cons_succ, List.getElem_cons_zero]
      refine gen_anyL (fun u => (Below w.heap.size w u ∧ Bk u (w.heap.size + 2) 24 #[.int .i64 0, .int .i64 0, .int .i64 0, .int .i64 0, .slice A' i c'] ∧ Bk u g5 44 #[.string xn, .int .i64 xa, .int .i64 xb, .slice An nl.length cn, .slice Ak m ck] ∧ w.heap.size + 3 ≤ u.heap.size) ∧ OK u v1.heap.size A2 c2 kl ∧ Ow 44 5 tcs u (w.heap.size + 3) A' c' T ∧ KpT u T ∧ Bk u (w.heap.size + 1) 24 #[.int .i64 0, .int .i64 0, .int .i64 0, .int .i64 0, .slice none 0 0] ∧ v1.heap.size ≤ u.heap.size ∧ Bk u u3.heap.size 44 #[.string xn, .int .i64 0, .int .i64 0, .slice none 0 0, .slice A2 m c2]) ⟨hHeld, Ow.on h3.2.1 ((Below.refl _ _).alloc (Nat.le_refl _) _), Ow.on h3.2.2.1 ((Below.refl _ _).alloc (Nat.le_refl _) _), KpT.on h3.2.2.2.1 ((Below.refl _ _).alloc (Nat.le_refl _) _), h3.2.2.2.2.1.alloc _, by rw [World.size_alloc]; exact Nat.le_succ_of_le h3.2.2.2.2.2, Bk.new _ _ _⟩ (fun u4 h4 => ?_)
      clear hHeld
      refine wpAnyL_ready (rs := [9]) (by kernel_rfl) (by simp) (AllReadyL.cons rfl (fun K hK => ?_) AllReadyL.nil)
      rw [if_pos (by kernel_rfl)]
      refine op_rows roT (.tmp 14) (.tmp 21) rfl i rfl HT.out.1 h4.2.2.1 [(⟨⟨xn, 0, 0, [], kl⟩, none, 0, A2, c2⟩ : Tv)] (some ⟨u3.heap.size, 0, none⟩) 1 1 rfl rfl (fun h => by cases h) (Rw.bk (f := tcs) (by have := h4.2.2.2.2.2.2; rw [← HM.out] at this; exact this)) (by have := HF.out; omega) h4.1.2.2.2 (i + 1) rfl ?_
      intro A4 c4 u5 ho5 hg5 hb5
      have hne : Bk u5 g5 44 #[.string xn, .int .i64 xa, .int .i64 xb, .slice An nl.length cn, .slice Ak m ck] := (hg5.block g5 h4.1.2.2.1.lt (fun e => by have := HQ.out.2.2.2.2.2.2.2.1 _ _ e.symm; omega)).trans h4.1.2.2.1
      have hS5 : Below w.heap.size w u5 ∧ Bk u5 (w.heap.size + 2) 24 #[.int .i64 0, .int .i64 0, .int .i64 0, .int .i64 0, .slice A' i c'] ∧ Bk u5 g5 44 #[.string xn, .int .i64 xa, .int .i64 xb, .slice An nl.length cn, .slice Ak m ck] ∧ w.heap.size + 3 ≤ u5.heap.size := ⟨h4.1.1.trans (hb5.mono (by omega)), h4.1.2.1.below hb5 (by omega), hne, Nat.le_trans h4.1.2.2.2 hb5.size⟩
      have hz5 : Bk u5 (w.heap.size + 1) 24 #[.int .i64 0, .int .i64 0, .int .i64 0, .int .i64 0, .slice none 0 0] := h4.2.2.2.2.1.below hb5 (by omega)
      have hk5 : KpT u5 (T ++ [(⟨⟨xn, 0, 0, [], kl⟩, none, 0, A2, c2⟩ : Tv)]) := (h4.2.2.2.1.grown hg5 h4.2.2.1).snoc (E := u4.heap.size) ⟨.inl rfl, (Ow.ry kcs_size h4.2.1).keep (Nat.le_refl _) (fun g cs _ hk => grown_ty hg5 h4.2.2.1 hk (.inl (by decide))), ⟨Nat.le_refl _, Nat.zero_le _, fun _ => ⟨rfl, rfl⟩⟩, h4.2.1.fit⟩ ⟨(fun n hn => by cases hn), HX1.out.sz, HX1.out.szk⟩
      refine hK.out _ _ hS5 (fun hHeld => ?_)
      try simp only [Act.put, List.setIfInBounds_toArray, List.set_cons_zero, List.set_cons_succ, List.getElem_toArray, List.getElem_cons_succ, List.getElem_cons_zero]
      refine takeL (some 23) [11] (i := 10) (v := ?_) rfl rfl (by kernel_rfl) (by kernel_rfl) (by kernel_rfl) (by kernel_rfl) (fun _ _ _ h => h) (Or.inl ⟨by kernel_rfl, ?_⟩) hHeld ?_
      rotate_left
      · intro wz hSw; go_simp; try (with_reducible rfl)
      try simp only [Act.put, List.setIfInBounds_toArray, List.set_cons_zero, List.set_cons_succ, List.getElem_toArray, List.getElem_cons_succ, List.getElem_cons_zero]
      have d4 : u5.cell? ⟨w.heap.size + 2, 4, none⟩ = some (.slice A' i c') := hS5.2.1.cell 4
      have f4 := hS5.2.1.frozen 4
      refine wpAnyL_ready (rs := [11]) (by kernel_rfl) (by simp) (AllReadyL.last rfl (fun K hK => ?_))
      rw [if_pos (by kernel_rfl)]
      go_simp
      refine hK.out _ _ ?_
      try simp only [Act.put, List.setIfInBounds_toArray, List.set_cons_zero, List.set_cons_succ, List.getElem_toArray, List.getElem_cons_succ, List.getElem_cons_zero]
      refine wpAnyL_done (by kernel_rfl) ?_ _
      refine gen_qL (fun u => Bk u (w.heap.size + 1) 24 #[.int .i64 0, .int .i64 0, .int .i64 0, .int .i64 0, .slice none 0 0] ∧ Bk u (w.heap.size + 2) 24 #[.int .i64 0, .int .i64 0, .int .i64 0, .int .i64 0, .slice A4 (i + 1) c4] ∧ Ow 44 5 tcs u (w.heap.size + 3) A4 c4 (T ++ [(⟨⟨xn, 0, 0, [], kl⟩, none, 0, A2, c2⟩ : Tv)]) ∧ KpT u (T ++ [(⟨⟨xn, 0, 0, [], kl⟩, none, 0, A2, c2⟩ : Tv)]) ∧ Below w.heap.size w u ∧ w.heap.size + 3 ≤ u.heap.size) ⟨?_, ?_, ?_, ?_, ?_, ?_⟩ (fun y5 hy5 => ?_)
      · exact hz5.far (by show w.heap.size + 1 ≠ w.heap.size + 2; omega) _
      · have := hS5.2.1.set 4 (.slice A4 (i + 1) c4)
        simpa only [List.setIfInBounds_toArray, List.set_cons_zero, List.set_cons_succ] using this
      · exact ho5.set (p := ⟨w.heap.size + 2, 4, none⟩) (by show w.heap.size + 2 < w.heap.size + 3; omega) _
      · exact hk5.far (p := ⟨w.heap.size + 2, 4, none⟩) hS5.2.1 _
      · exact hS5.1.setCell (p := ⟨w.heap.size + 2, 4, none⟩) (by show w.heap.size ≤ w.heap.size + 2; omega) _
      · rw [World.size_setCell]; exact hS5.2.2.2
      clear hHeld hS5 hz5 hk5 ho5 hg5 hb5 d4 f4 h4 h3 hne HQ
      obtain ⟨q1, q2, q4, q5, q6, q7⟩ := hy5
      go_wp2
      go_roundw
      case rel =>
        refine ⟨i + 1, T ++ [(⟨⟨xn, 0, 0, [], kl⟩, none, 0, A2, c2⟩ : Tv)], A4, c4, by omega, by go_num, Lib.hid ⟨by rw [List.length_append, HT.out.1]; rfl, ?_⟩, Lib.hid q2, Lib.hid q1, Lib.hid q4, Lib.hid q5, Lib.hid ⟨q6, q7⟩⟩
        rw [List.map_append, HT.out.2, List.take_add_one, HX.out, List.map_append]
        rfl
      case measure => simp [intOf]; omega
    · have hi2 : ¬ (i : Int) < (n : Int) := by omega
      have hin : i = n := by omega
      subst hin
      have z0 : wr.cell? ⟨w.heap.size + 2, 0, none⟩ = some (.int .i64 0) := HO.out.cell 0
      have z1 : wr.cell? ⟨w.heap.size + 2, 1, none⟩ = some (.int .i64 0) := HO.out.cell 1
      have z2 : wr.cell? ⟨w.heap.size + 2, 2, none⟩ = some (.int .i64 0) := HO.out.cell 2
      have z3 : wr.cell? ⟨w.heap.size + 2, 3, none⟩ = some (.int .i64 0) := HO.out.cell 3
      have z4 : wr.cell? ⟨w.heap.size + 2, 4, none⟩ = some (.slice A' i c') := HO.out.cell 4
      have y0 : wr.cell? ⟨w.heap.size + 1, 0, none⟩ = some (.int .i64 0) := HZ.out.cell 0
      have y1 : wr.cell? ⟨w.heap.size + 1, 1, none⟩ = some (.int .i64 0) := HZ.out.cell 1
      have y2 : wr.cell? ⟨w.heap.size + 1, 2, none⟩ = some (.int .i64 0) := HZ.out.cell 2
      have y3 : wr.cell? ⟨w.heap.size + 1, 3, none⟩ = some (.int .i64 0) := HZ.out.cell 3
      have y4 : wr.cell? ⟨w.heap.size + 1, 4, none⟩ = some (.slice none 0 0) := HZ.out.cell 4
      have f0 := HZ.out.frozen 0
      have f1 := HZ.out.frozen 1
      have f2 := HZ.out.frozen 2
      have f3 := HZ.out.frozen 3
      have f4 := HZ.out.frozen 4
      go_wp2
      have kU := (((((HZ.out.set 0 (.int .i64 0)).set 1 (.int .i64 0)).set 2 (.int .i64 0)).set 3 (.int .i64 0)).set 4 (.slice A' i c'))
      simp only [List.setIfInBounds_toArray, List.set_cons_zero, List.set_cons_succ] at kU
      refine bodyPost_ret (v := .agg #[.int .i64 0, .int .i64 0, .int .i64 0, .int .i64 0, .slice A' i c']) ?_ rfl ⟨T, A', c', rfl, ?_, ?_, ?_, ?_⟩
      · have p0 := kU.cell 0; have p1 := kU.cell 1; have p2 := kU.cell 2; have p3 := kU.cell 3; have p4 := kU.cell 4
        simp [results, Tryd.f27, go_sem, p0, p1, p2, p3, p4]
      · rw [HT.out.2, List.take_of_length_le (by rw [HN.out]; exact Nat.le_refl _)]
      · have hp : ∀ j, j < 5 → (⟨w.heap.size + 1, j, none⟩ : Addr).block < w.heap.size + 3 := fun j _ => by show w.heap.size + 1 < w.heap.size + 3; omega
        have o5 := ((((HOW.out.set (p := ⟨w.heap.size + 1, 0, none⟩) (hp 0 (by omega)) (.int .i64 0)).set (p := ⟨w.heap.size + 1, 1, none⟩) (hp 1 (by omega)) (.int .i64 0)).set (p := ⟨w.heap.size + 1, 2, none⟩) (hp 2 (by omega)) (.int .i64 0)).set (p := ⟨w.heap.size + 1, 3, none⟩) (hp 3 (by omega)) (.int .i64 0)).set (p := ⟨w.heap.size + 1, 4, none⟩) (hp 4 (by omega)) (.slice A' i c')
        have k1 := HZ.out
        have m1 := HKP.out.far (p := ⟨w.heap.size + 1, 0, none⟩) k1 (.int .i64 0)
        have m2 := m1.far (p := ⟨w.heap.size + 1, 1, none⟩) (k1.set 0 _) (.int .i64 0)
        have m3 := m2.far (p := ⟨w.heap.size + 1, 2, none⟩) ((k1.set 0 _).set 1 _) (.int .i64 0)
        have m4 := m3.far (p := ⟨w.heap.size + 1, 3, none⟩) (((k1.set 0 _).set 1 _).set 2 _) (.int .i64 0)
        have m5 := m4.far (p := ⟨w.heap.size + 1, 4, none⟩) ((((k1.set 0 _).set 1 _).set 2 _).set 3 _) (.slice A' i c')
        exact ⟨⟨o5.rw_ tcs_size, m5.rt⟩, o5.fit⟩
      · intro y hy
        have h1 : y.t ∈ (ts.take i).map fun y => kpT y.t := by rw [← HT.out.2]; exact List.mem_map.2 ⟨y, hy, rfl⟩
        obtain ⟨z, hz, e⟩ := List.mem_map.1 h1
        have := HFW.out z (List.mem_of_mem_take hz)
        rw [← e]
        exact ⟨Nat.zero_le _, this⟩
      · have hl := HB.out.1
        exact (((((hl.setCell (p := ⟨w.heap.size + 1, 0, none⟩) (by show w.heap.size ≤ w.heap.size + 1; omega) _).setCell (p := ⟨w.heap.size + 1, 1, none⟩) (by show w.heap.size ≤ w.heap.size + 1; omega) _).setCell (p := ⟨w.heap.size + 1, 2, none⟩) (by show w.heap.size ≤ w.heap.size + 1; omega) _).setCell (p := ⟨w.heap.size + 1, 3, none⟩) (by show w.heap.size ≤ w.heap.size + 1; omega) _).setCell (p := ⟨w.heap.size + 1, 4, none⟩) (by show w.heap.size ≤ w.heap.size + 1; omega) _)
end Go.Proofs.YtijboiepockmjaaDoor

/- A map keyed by arrays of two texts: a set of pairs. -/
namespace Go.Proofs.YtijboiepockmjaaDoor
set_option linter.unusedVariables false
set_option maxRecDepth 100000
set_option linter.unusedSimpArgs false
open Go.RowKit Go.Maps Go.WideMaps

theorem vArr : ArrKey Tryd.prog 67 9 2 := ⟨Tryd.underlying67, by kernel_rfl, by kernel_rfl, by kernel_rfl⟩
theorem vlaw : Keyed Tryd.prog 67 := Keyed.of_law vArr.law
theorem vzero (w : World) : (zeroValue 68).run Tryd.prog w = .ok (.agg #[]) w := by kernel_rfl
theorem keyOf_two {P : Program} {k e : TypeId} (A : ArrKey P k e 2) (he : P.underlying e = some .string) (hsz : ∃ m, P.types.size = m + 1) {a b : ByteArray} (wa : a.size ≤ maxLen) (wb : b.size ≤ maxLen) :
    keyOf P k (.agg #[.string a, .string b]) = some (.string (keyBytes [.string a.data.toList, .string b.data.toList])) := by
  have hkt := A.keyType hsz
  obtain ⟨m, hm⟩ := hsz
  unfold keyOf
  simp only [A.hu]
  rw [if_pos (by simp [hkt, Value.formed, A.hu, A.size]), hm]
  unfold Program.keyLits
  simp only [A.hu, Value.cells]
  rw [if_pos (by rw [A.size]; rfl), show List.range 2 = [0, 1] from rfl, List.mapM_cons, List.mapM_cons, List.mapM_nil]
  simp [A.one, Program.keyLits, he, wa, wb]
abbrev nk (a b : ByteArray) : Value := .agg #[.string a, .string b]
theorem vkey {a b : ByteArray} (ha : a.size ≤ 140737488355328) (hb : b.size ≤ 140737488355328) : ∃ kl, keyOf Tryd.prog 67 (nk a b) = some kl :=
  ⟨_, keyOf_two vArr Tryd.underlying9 ⟨Tryd.prog.types.size - 1, by kernel_rfl⟩ (by unfold maxLen; omega) (by unfold maxLen; omega)⟩

/-- At mb lies the set of those pairs. -/
structure Mv (u : World) (mb : Nat) (g : Rev) : Prop where
  ex : ∃ n D, u.ownsMap Tryd.prog 67 (unitElem (H := Unit)) mb n D ∧ n ≤ g.length ∧ ∀ a b kl, keyOf Tryd.prog 67 (nk a b) = some kl → Maps.has D kl = inR g a b
theorem Mv.lt {u : World} {mb : Nat} {g : Rev} (h : Mv u mb g) : mb < u.heap.size := by
  obtain ⟨n, D, h3, _⟩ := h.ex
  exact h3.lt
theorem Mv.block {u : World} {mb : Nat} {g : Rev} (h : Mv u mb g) : ∃ es ck, u.heap[mb]? = some (.map es ck) := by
  obtain ⟨n, D, ⟨es, clock, hb, _⟩, _⟩ := h.ex
  exact ⟨es, clock, hb⟩
theorem Mv.ke {u u' : World} {mb : Nat} {g : Rev} {L : List Nat} (h : Mv u mb g) (k : Ke L u u') (hm : mb ∉ L) : Mv u' mb g := by
  obtain ⟨n, D, ⟨es, clock, hb, r⟩, h4⟩ := h.ex
  exact ⟨n, D, ⟨es, clock, (k.block mb (lt_of_block hb) hm).trans hb, r⟩, h4⟩
theorem turned_keV {w w' : World} {b : Nat} (h : w.mapTurned w' b) : Ke [b] w w' := by
  have g := h.grown
  exact ⟨g.os, g.tape, g.output, g.size, fun k hk hn => g.block k hk (fun e => hn (by injection e with e; simp [e]))⟩
theorem Mv.made (w : World) : Mv (w.alloc (.map #[] 0)) w.heap.size [] := ⟨0, DataW.map [], World.ownsMap_made _ _ _ _, Nat.le_refl _, fun a b kl _ => by simp [Maps.has, inR]⟩
theorem Mv.look {u : World} {mb : Nat} {g : Rev} (h : Mv u mb g) {a b : ByteArray} (ha : a.size ≤ 140737488355328) (hb : b.size ≤ 140737488355328) :
    (Instr.lookup 60 (.map (some mb)) (nk a b) true).run Tryd.prog u = .ok (.tuple #[.agg #[], .bool (inR g a b)]) u := by
  obtain ⟨n, D, h3, _, h5⟩ := h.ex
  obtain ⟨kl, hk⟩ := vkey ha hb
  obtain ⟨v, ps, hr, hv⟩ := h3.look_ok vlaw Tryd.underlying60 (vzero u) unitElem_mk hk
  obtain ⟨rfl, _⟩ := unitElem_inv hv
  rw [hr, h5 a b kl hk]
theorem Mv.store {u : World} {mb : Nat} {g : Rev} (h : Mv u mb g) (hg : g.length ≤ 1099511627776) {a b : ByteArray} (ha : a.size ≤ 140737488355328) (hb : b.size ≤ 140737488355328) :
    ∃ w', (Instr.mapUpdate 60 (.map (some mb)) (nk a b) (.agg #[])).run Tryd.prog u = .ok () w' ∧ Mv w' mb ((a, b) :: g) ∧ Ke [mb] u w' := by
  obtain ⟨n, D, h3, h4, h5⟩ := h.ex
  obtain ⟨kl, hk⟩ := vkey ha hb
  obtain ⟨w', hr, h7, h8⟩ := h3.store vlaw Tryd.underlying60 (by unfold maxLen; omega) hk (unitElem_mk (H := Unit))
  refine ⟨w', hr, ⟨n + 1, _, h7, by rw [List.length_cons]; omega, fun x y kl' hk' => ?_⟩, turned_keV h8⟩
  rw [inR_cons]
  by_cases e : kl' = kl
  · subst e
    have e1 := vlaw.inj hk hk'
    injection e1 with e1
    have e2 : a = x ∧ b = y := by
      have := congrArg Array.toList e1
      simp at this
      exact this
    obtain ⟨rfl, rfl⟩ := e2
    rw [has_put_same h3.isMap (vlaw.key hk), nmEq_iff.2 rfl, nmEq_iff.2 rfl]
    rfl
  · rw [has_put_other e, h5 x y kl' hk']
    have hne : (nmEq a x && nmEq b y) = false := by
      cases hq : (nmEq a x && nmEq b y)
      · rfl
      · rw [Bool.and_eq_true, nmEq_iff, nmEq_iff] at hq
        obtain ⟨rfl, rfl⟩ := hq
        exact absurd (Option.some.inj (hk'.symm.trans hk)) e
    rw [hne, Bool.false_or]
/-- The store, as one operation. -/
theorem wp_vstore {ops : Array Oper} {rest : List Oper} {o : Oper} {a : Act} {Q : Exit → Act → World → Prop} {w : World} (hg : o.guard = none) (m x v : Operand) (hop : o.op = Op.mapUpdate 60 m x v)
    (mb : Nat) (g : Rev) (p q : ByteArray) (hm : a.eval m = .map (some mb)) (hx : a.eval x = nk p q) (hv : a.eval v = .agg #[]) (h : Mv w mb g) (hl : g.length ≤ 1099511627776) (hp : p.size ≤ 140737488355328) (hq : q.size ≤ 140737488355328)
    (hK : ∀ w', Mv w' mb ((p, q) :: g) → Ke [mb] w w' → wpList Tryd.prog ops Q rest (a.put o.dst undef) w') : wpList Tryd.prog ops Q (o :: rest) a w := by
  refine wpList_plain hg fun K' hK' => ?_
  obtain ⟨w', hrun, r1, r2⟩ := h.store hl hp hq
  unfold Oper.wp
  simp [execOp, hop, hm, hx, hv, hrun, Result.andThen]
  exact hK' _ _ (hK w' r1 r2)
end Go.Proofs.YtijboiepockmjaaDoor

/- An element of an array by value, its place a letter. Nothing of the program is named here. -/
namespace Go.Proofs.YtijboiepockmjaaDoor
set_option linter.unusedVariables false
set_option maxRecDepth 100000
set_option linter.unusedSimpArgs false
open Go.RowKit
theorem run_idx {P : Program} (t e : TypeId) (n : Nat) (cs : Array Value) (i : Nat) (v : Value) (h : P.underlying t = some (.array n e)) (ha : ∀ w, (isAgg e).run P w = .ok false w) (hz : ∀ w, (sizeOf e).run P w = .ok 1 w) (hi : i < n) (hv : cs[i]? = some v) (u : World) :
    (Instr.index t (.agg cs) (.int .i64 (i : Int))).run P u = .ok v u := by
  have h2 : (0 ≤ (i : Int) ∧ (i : Int) < (n : Int)) := by omega
  have h3 : ¬ n ≤ i := by omega
  simp [Instr.index, run_underlying h, asIntOf, h2, h3, go_sem, ha, hz, hv]
end Go.Proofs.YtijboiepockmjaaDoor
