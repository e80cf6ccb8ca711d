/- SumL, Bytes, Text, MacM, DigMath, OrdMath: texts of this seat, one behind the other. -/
import Derived.Test.YtinbegnojfpeiaaDoorSum
import Derived.Test.YtinbegnojfpeiaaDoorG1
import Derived.Lib.AppendStr
import Derived.Laws.AppendOwnNone
import Derived.Lib.SlBytesConst
import Derived.Deep.AppendLies
import Derived.Test.YtinbegnojfpeiaaDoorRows
import Derived.Test.YtinbegnojfpeiaaDoorG2
/- The sum's length, and 32 bytes in memory. -/
namespace Go.Proofs.YtinbegnojfpeiaaDoor
set_option linter.unusedVariables false
set_option maxRecDepth 100000
set_option linter.unusedSimpArgs false
open Go.RowKit

theorem sum_len (l : List UInt8) : (sum l).length = 32 := by unfold sum outB; rw [List.length_map, List.length_range]
/-- The place of 32 bytes that the call has made. -/
theorem zeros_new (w : World) : Bk (w.alloc (.cells #[.int .u8 0, .int .u8 0, .int .u8 0, .int .u8 0, .int .u8 0, .int .u8 0, .int .u8 0, .int .u8 0, .int .u8 0, .int .u8 0, .int .u8 0, .int .u8 0, .int .u8 0, .int .u8 0, .int .u8 0, .int .u8 0, .int .u8 0, .int .u8 0, .int .u8 0, .int .u8 0, .int .u8 0, .int .u8 0, .int .u8 0, .int .u8 0, .int .u8 0, .int .u8 0, .int .u8 0, .int .u8 0, .int .u8 0, .int .u8 0, .int .u8 0, .int .u8 0] 68)) w.heap.size 68 (bcells (List.replicate 32 0)) := Bk.new w 68 _
end Go.Proofs.YtinbegnojfpeiaaDoor

/- Slices of bytes that the call itself made: what they own, and what an append leaves. Nothing of the program is named here. -/
namespace Go.Proofs.YtinbegnojfpeiaaDoor
set_option linter.unusedVariables false
set_option maxRecDepth 100000
set_option linter.unusedSimpArgs false
open Go.RowKit

/-- The slice at A, of capacity c, owns the bytes l: it lies at block B or behind it. -/
def OB (w : World) (B : Nat) (e : TypeId) (A : Option Addr) (c : Nat) (l : List UInt8) : Prop := w.ownsRow B e 1 (.slice A l.length c) l.length (l.map u8)

theorem OB.nil (w : World) (B : Nat) (e : TypeId) : OB w B e none 0 [] := World.ownsRow_nil w B e 1

theorem OB.form {w : World} {B : Nat} {e : TypeId} {A : Option Addr} {c : Nat} {l : List UInt8} (h : OB w B e A c l) (h0 : l ≠ []) : ∃ g, A = some ⟨g, 0, none⟩ ∧ B ≤ g ∧ g < w.heap.size := by
  have hp : 0 < l.length := List.length_pos_iff.2 h0
  obtain ⟨g, cap, hv, hb, hl⟩ := World.ownsRow.form h hp
  injection hv with h1 h2 h3
  exact ⟨g, h1, hb, hl⟩

theorem OB.rb {w : World} {B : Nat} {e : TypeId} {A : Option Addr} {c : Nat} {l : List UInt8} (h : OB w B e A c l) : Rb w w.heap.size A l := by
  by_cases h0 : l = []
  · exact .inl h0
  · obtain ⟨g, rfl, _, hl⟩ := h.form h0
    refine .inr ⟨g, 0, rfl, hl, fun i hi => ?_⟩
    have := World.ownsRow.cellAt h i (by omega)
    rw [Nat.zero_add, this]
    simp [hi]

theorem OB.cap {w : World} {B : Nat} {e : TypeId} {A : Option Addr} {c : Nat} {l : List UInt8} (h : OB w B e A c l) : l.length ≤ c ∧ c ≤ 9223372036854775807 := by
  rcases h.2 with ⟨hv, h0⟩ | ⟨g, cap, cur, hv, _, _, hn, hm, _⟩
  · injection hv with _ _ h3
    omega
  · injection hv with _ _ h3
    unfold maxLen at hm
    omega

theorem OB.new {w : World} {B : Nat} (e : TypeId) (l : List UInt8) (hB : B ≤ w.heap.size) (hl : l.length ≤ 140737488355328) : OB (w.alloc (.cells (bcells l) e)) B e (some ⟨w.heap.size, 0, none⟩) l.length l := by
  have := World.ownsRow_lit (base := B) (e := e) (size := 1) w (bcells l) l.length hB (by unfold maxLen; omega) (by rw [bcells_size]; omega)
  have e1 : (bcells l).toList = l.map u8 := by simp [bcells]
  rw [e1] at this
  exact this

theorem OB.grown {w w' : World} {B : Nat} {e : TypeId} {A : Option Addr} {c : Nat} {l : List UInt8} (h : OB w B e A c l) {row : Option Nat} (hg : w.grownBy w' row) (hne : (Value.slice A l.length c).ownBlock = none ∨ (Value.slice A l.length c).ownBlock ≠ row) : OB w' B e A c l :=
  World.ownsRow.kept h hg hne
theorem OB.alloc {w : World} {B : Nat} {e : TypeId} {A : Option Addr} {c : Nat} {l : List UInt8} (h : OB w B e A c l) (o : Obj) : OB (w.alloc o) B e A c l := World.ownsRow.alloc h o

/-- append of bytes that a slice reads as. -/
theorem wp_app {P : Program} {ops : Array Oper} {rest : List Oper} {o : Oper} {a : Act} {Q : Exit → Act → World → Prop} {w : World} (hgd : o.guard = none) (s x : Operand) (t e : TypeId)
    (ho : o.op = .call { callee := .builtin .append, args := #[s, x], argTypes := #[t, t] }) (ht : P.underlying t = some (.slice e))
    (hi : (P.info? e).map (fun i => (i.zero, i.size, i.bytes)) = some (some (.int .u8 0), 1, 1)) (B : Nat) (l : List UInt8) (A : Option Addr) (n c : Nat) (hs : a.eval s = .slice A n c) (hn : l.length = n) (hown : OB w B e A c l)
    (k : List UInt8) (ad : Addr) (m c' B' : Nat) (hx : a.eval x = .slice (some ad) m c') (hm : k.length = m) (hR : Rb w B' (some ad) k)
    (hlen : l.length + k.length ≤ 140737488355328) (hbase : B ≤ w.heap.size)
    (h : ∀ A2 c2 w', OB w' B e A2 c2 (l ++ k) → w.grownBy w' (Value.slice A n c).ownBlock → Below B w w' → wpList P ops Q rest (a.put o.dst (.slice A2 (l ++ k).length c2)) w') : wpList P ops Q (o :: rest) a w := by
  subst hn; subst hm
  obtain ⟨i, hi1, hz, hsz, hby⟩ := info_parts hi
  refine wpList_append_own w hgd s x t ho B e i (.int .u8 0) 1 1 ht hi1 hz hsz hby rfl (by decide) _ l.length (l.map u8) hs hown ad k.length c' (k.map u8) hx (by simp) ?_ ?_ (by unfold maxLen; omega) (by omega) hbase ?_
  · intro j u hu
    have hj : j < k.length := by
      rcases Nat.lt_or_ge j k.length with h1 | h1
      · exact h1
      · rw [List.getElem?_eq_none (by simpa using h1)] at hu; cases hu
    rcases hR with h0 | ⟨b, off, e1, _, hc⟩
    · subst h0; simp at hj
    · injection e1 with e1
      subst e1
      have hplain : (⟨b, off, none⟩ : Addr).add j = ⟨b, off + j, none⟩ := by unfold Addr.add; split <;> simp_all
      rw [hplain, hc j hj]
      simp [hj] at hu
      exact congrArg some hu
  · intro u hu
    obtain ⟨b, _, rfl⟩ := List.mem_map.1 hu
    rfl
  · intro v' w' hown' hg _
    have hbel : Below B w w' := (Below.refl B w).grown hg hbase (fun k hk => (World.ownsRow.lt hown k hk).1)
    have hlen' : (l ++ k).length = l.length + k.length := List.length_append
    by_cases h0 : l ++ k = []
    · have h00 : l.length + k.length = 0 := by rw [← hlen', h0]; rfl
      rw [h00] at hown'
      rcases hown'.2 with ⟨rfl, _⟩ | ⟨g, cap, cur, rfl, _, r⟩
      · have := h none 0 w' (by rw [h0]; exact OB.nil w' B e) hg hbel
        rwa [h0] at this
      · have := h (some ⟨g, 0, none⟩) cap w' (by
          rw [h0]
          have e2 : List.map u8 l ++ List.map u8 k = [] := by rw [← List.map_append, h0]; rfl
          rw [e2] at hown'
          exact hown') hg hbel
        rwa [h0] at this
    · have hp : 0 < l.length + k.length := by rw [← hlen']; exact List.length_pos_iff.2 h0
      obtain ⟨g, cap, rfl, _, _⟩ := World.ownsRow.form hown' hp
      have := h (some ⟨g, 0, none⟩) cap w' (by unfold OB; rw [hlen', List.map_append]; exact hown') hg hbel
      rwa [hlen'] at this

/-- The same, the slice of which bytes are appended being nil or not. -/
theorem wp_app_any {P : Program} {ops : Array Oper} {rest : List Oper} {o : Oper} {a : Act} {Q : Exit → Act → World → Prop} {w : World} (hgd : o.guard = none) (s x : Operand) (t e : TypeId)
    (ho : o.op = .call { callee := .builtin .append, args := #[s, x], argTypes := #[t, t] }) (ht : P.underlying t = some (.slice e))
    (hi : (P.info? e).map (fun i => (i.zero, i.size, i.bytes)) = some (some (.int .u8 0), 1, 1)) (B : Nat) (l : List UInt8) (A : Option Addr) (n c : Nat) (hs : a.eval s = .slice A n c) (hn : l.length = n) (hown : OB w B e A c l)
    (k : List UInt8) (A' : Option Addr) (m c' B' : Nat) (hx : a.eval x = .slice A' m c') (hm : k.length = m) (hnil : A' = none → m = 0 ∧ c' = 0) (hR : Rb w B' A' k)
    (hlen : l.length + k.length ≤ 140737488355328) (hbase : B ≤ w.heap.size)
    (h : ∀ A2 c2 w', OB w' B e A2 c2 (l ++ k) → w.grownBy w' (Value.slice A n c).ownBlock → Below B w w' → wpList P ops Q rest (a.put o.dst (.slice A2 (l ++ k).length c2)) w') : wpList P ops Q (o :: rest) a w := by
  cases A' with
  | some ad => exact wp_app hgd s x t e ho ht hi B l A n c hs hn hown k ad m c' B' hx hm hR hlen hbase h
  | none =>
    obtain ⟨rfl, rfl⟩ := hnil rfl
    have hk : k = [] := List.eq_nil_of_length_eq_zero hm
    subst hk
    subst hn
    obtain ⟨i, hi1, hz, hsz, hby⟩ := info_parts hi
    refine wpList_append_own_none hgd s x t ho B e i 1 ht hi1 _ l.length (l.map u8) hs hown hx ?_
    have := h A c w (by simpa using hown) (World.grownBy.refl w _) (Below.refl B w)
    simpa using this

/-- append of a text's bytes. -/
theorem wp_app_str {P : Program} {ops : Array Oper} {rest : List Oper} {o : Oper} {a : Act} {Q : Exit → Act → World → Prop} {w : World} (hgd : o.guard = none) (sl x : Operand) (t u e : TypeId)
    (ho : o.op = .call { callee := .builtin .append, args := #[sl, x], argTypes := #[t, u] }) (ht : P.underlying t = some (.slice e)) (hu : P.underlying u = some .string)
    (hi : (P.info? e).map (fun i => (i.zero, i.size, i.bytes)) = some (some (.int .u8 0), 1, 1)) (B : Nat) (l : List UInt8) (A : Option Addr) (n c : Nat) (hs : a.eval sl = .slice A n c) (hn : l.length = n) (hown : OB w B e A c l)
    (s : ByteArray) (hx : a.eval x = .string s) (hlen : l.length + s.size ≤ 140737488355328) (hbase : B ≤ w.heap.size)
    (h : ∀ A2 c2 w', OB w' B e A2 c2 (l ++ s.data.toList) → w.grownBy w' (Value.slice A n c).ownBlock → Below B w w' → wpList P ops Q rest (a.put o.dst (.slice A2 (l ++ s.data.toList).length c2)) w') : wpList P ops Q (o :: rest) a w := by
  subst hn
  obtain ⟨i, hi1, hz, hsz, hby⟩ := info_parts hi
  refine Go.Lib.wpList_append_own_string (w := w) hgd sl x t u ho B e i ht hu hi1 hz hsz hby _ l.length (l.map u8) hs hown s hx (by unfold maxLen; omega) (by omega) hbase ?_
  intro v' w' hown' hg _
  have hbel : Below B w w' := (Below.refl B w).grown hg hbase (fun k hk => (World.ownsRow.lt hown k hk).1)
  have hsl : s.data.toList.length = s.size := rfl
  have hlen' : (l ++ s.data.toList).length = l.length + s.size := by rw [List.length_append, hsl]
  have hst : Go.Lib.strCells s = s.data.toList.map u8 := rfl
  rw [hst, ← List.map_append] at hown'
  rw [← hlen'] at hown'
  by_cases h0 : l ++ s.data.toList = []
  · rw [h0] at hown'
    rcases hown'.2 with ⟨rfl, _⟩ | ⟨g, cap, cur, rfl, _, r⟩
    · have := h none 0 w' (by rw [h0]; exact OB.nil w' B e) hg hbel
      rwa [h0] at this
    · have := h (some ⟨g, 0, none⟩) cap w' (by rw [h0]; exact hown') hg hbel
      rwa [h0] at this
  · have hp : 0 < (l ++ s.data.toList).length := List.length_pos_iff.2 h0
    obtain ⟨g, cap, rfl, _, _⟩ := World.ownsRow.form hown' hp
    exact h (some ⟨g, 0, none⟩) cap w' hown' hg hbel

/-- make([]byte, 0, c): it owns nothing yet. -/
theorem mk_empty {P : Program} (w : World) (t e : TypeId) (ht : P.underlying t = some (.slice e)) (hi : (P.info? e).map (fun i => (i.zero, i.size, i.bytes)) = some (some (.int .u8 0), 1, 1)) (c : Nat) (hc : c ≤ 140737488355328) (kl kc : IntKind := .i64) :
    (Instr.makeSlice t (.int kl 0) (.int kc (c : Int))).run P w = .ok (.slice (some ⟨w.heap.size, 0, none⟩) 0 c) (w.alloc (.cells (Array.replicate c (.int .u8 0)) e)) := by
  obtain ⟨i, hi1, hz, hs, hb⟩ := info_parts hi
  have h := run_make (P := P) w t e i (.int .u8 0) ht hi1 hz kl kc 0 c (by omega) (by omega) (by rw [hb]; omega) (by omega)
  rw [h]
  have e1 : madeCells #[Value.int .u8 0] c = Array.replicate c (.int .u8 0) := by
    apply Array.ext'; rw [toList_madeCells_one]; simp
  simp [hs, Value.cells, e1]

theorem OB.made (w : World) {B : Nat} (e : TypeId) (c : Nat) (hB : B ≤ w.heap.size) (hc : c ≤ 140737488355328) : OB (w.alloc (.cells (Array.replicate c (.int .u8 0)) e)) B e (some ⟨w.heap.size, 0, none⟩) c [] := by
  have := World.ownsRow_made (base := B) (e := e) (size := 1) w (Array.replicate c (.int .u8 0)) c hB (by unfold maxLen; omega) (by simp)
  exact this

/-- A block of constant bytes, with its mark. -/
theorem Rb.marked {w : World} {t : TypeId} {l : List UInt8} {fr : Nat × Nat} : Rb (w.alloc (.cells (bcells l) t fr)) (w.heap.size + 1) (some ⟨w.heap.size, 0, none⟩) l :=
  .inr ⟨w.heap.size, 0, rfl, by omega, fun i hi => by rw [cell_of_row _ _ _ _ t fr (heap_alloc_new w _), Nat.zero_add, bcells_at l i hi]⟩

/-- One byte that has just been laid into a block of its own. -/
theorem Rb.one {w : World} {n : Nat} {t : TypeId} {c : UInt8} {v : Int} (hn : n = w.heap.size) (hv : v = (c.toNat : Int)) : Rb (w.alloc (.cells #[.int .u8 v] t)) (n + 1) (some ⟨n, 0, none⟩) [c] := by
  subst hv
  exact Rb.bk (t := t) (l := [c]) (Bk.here hn)

end Go.Proofs.YtinbegnojfpeiaaDoor

/- num.Text: its contract. -/
namespace Go.Proofs.YtinbegnojfpeiaaDoor
set_option linter.unusedVariables false
set_option maxRecDepth 100000
set_option linter.unusedSimpArgs false
open Go.RowKit

/-- A text's bytes; nothing, if it is too long. -/
def textB (s : ByteArray) : List UInt8 := if s.size ≤ 255 then UInt8.ofNat s.size :: s.data.toList else []

theorem byInfo : (Tryd.prog.info? 5).map (fun i => (i.zero, i.size, i.bytes)) = some (some (.int .u8 0), 1, 1) := by kernel_rfl

set_option maxHeartbeats 1000000 in
theorem text_ok (s : ByteArray) (w : World) (hs : s.size ≤ 140737488355328) :
    Calls Tryd.prog 42 #[.string s] w fun e w' => ∃ A c, e = .returned (.slice A (textB s).length c) ∧ OB w' w.heap.size 5 A c (textB s) ∧ Below w.heap.size w w' := by
  by_cases hle : s.size ≤ 255
  · obtain ⟨l, hl⟩ : ∃ l, l = textB s := ⟨_, rfl⟩
    rw [← hl]
    have hl2 : l = [UInt8.ofNat s.size] ++ s.data.toList := by rw [hl, textB, if_pos hle]; rfl
    have HL := Lib.hid hl2
    clear hl hl2
    have e8 : (UInt8.ofNat s.size).toNat = s.size := by simp [UInt8.toNat_ofNat']; omega
    have HE8 := Lib.hid e8
    have hmk : (Instr.makeSlice 50 (.int .i64 0) (.int .i64 (1 + (s.size : Int)))).run Tryd.prog w = .ok (.slice (some ⟨w.heap.size, 0, none⟩) 0 (1 + s.size)) (w.alloc (.cells (Array.replicate (1 + s.size) (.int .u8 0)) 5)) := by
      have := mk_empty (P := Tryd.prog) w 50 5 Tryd.underlying50 byInfo (1 + s.size) (by omega)
      rw [← this]; congr 2
    clear e8
    have h1 := OB.made (B := w.heap.size) w 5 (1 + s.size) (Nat.le_refl _) (by omega)
    have hb1 : Below w.heap.size w (w.alloc (.cells (Array.replicate (1 + s.size) (.int .u8 0)) 5)) := by go_grown
    have hsz : (w.alloc (.cells (Array.replicate (1 + s.size) (.int .u8 0)) 5)).heap.size = w.heap.size + 1 := by simp
    generalize w.alloc (.cells (Array.replicate (1 + s.size) (.int .u8 0)) 5) = w1 at hmk h1 hb1 hsz
    have h2 := Lib.hid (h1.alloc (.cells #[.int .u8 (s.size : Int)] 5))
    have h3 := Lib.hid (Rb.one (w := w1) (t := 5) (c := UInt8.ofNat s.size) (v := (s.size : Int)) (n := w1.heap.size) rfl (by rw [HE8.out]))
    have hsz2 : w.heap.size ≤ w1.heap.size := by omega
    have hb2 : Below w.heap.size w (w1.alloc (.cells #[.int .u8 (s.size : Int)] 5)) := hb1.alloc hsz2 _
    clear hsz h1
    go_enter Tryd.func42, Tryd.ntmps42
    go_wp2_with (first
      | (at_builtin; refine wp_app rfl (.tmp 11) (.tmp 15) 50 5 rfl Tryd.underlying50 byInfo w.heap.size [] _ _ _ rfl rfl h2.out [UInt8.ofNat s.size] _ _ _ _ rfl rfl h3.out (by simp) hb2.size ?_; intro A2 c2 w2 ho hg hb)
      | (at_builtin; refine wp_app_str rfl (.tmp 17) (.tmp 18) 50 9 5 rfl Tryd.underlying50 Tryd.underlying9 byInfo w.heap.size _ _ _ _ rfl rfl ho s rfl (by simp only [List.nil_append, List.length_cons, List.length_nil]; omega) (Nat.le_trans hb2.size hb.size) ?_; intro A3 c3 w3 ho3 hg3 hb3))
    have hll : l.length = s.size + 1 := by rw [HL.out, List.length_append]; show 1 + s.size = s.size + 1; omega
    have hO : OB w3 w.heap.size 5 A3 c3 l := by rw [HL.out]; exact ho3
    go_ret
    exact ⟨A3, c3, by rw [hll]; rfl, hO, (hb2.trans hb).trans hb3⟩
  · have hl : textB s = [] := by rw [textB, if_neg hle]
    rw [hl]
    go_enter Tryd.func42, Tryd.ntmps42
    go_wp2
    go_ret
    exact ⟨none, 0, rfl, OB.nil _ _ _, Below.refl _ _⟩
end Go.Proofs.YtinbegnojfpeiaaDoor

/- Sums under keys (HMAC), proofs of words: what the document asks, as Lean functions. -/
namespace Go.Proofs.YtinbegnojfpeiaaDoor
set_option linter.unusedVariables false
set_option maxRecDepth 100000
set_option linter.unusedSimpArgs false
open Go.RowKit

/-- A key of at most 64 bytes. -/
def shortK (key : List UInt8) : List UInt8 := if 64 < key.length then sum key else key
/-- A key of 64 bytes. -/
def keyB (key : List UInt8) : List UInt8 := shortK key ++ List.replicate (64 - (shortK key).length) 0
def padB (key : List UInt8) (c : UInt8) : List UInt8 := (keyB key).map fun x => x ^^^ c
def macB (key b : List UInt8) : List UInt8 := sum (padB key 92 ++ sum (padB key 54 ++ b))
theorem shortK_len (key : List UInt8) : (shortK key).length ≤ 64 := by
  unfold shortK
  split
  · rw [sum_len]; decide
  · omega
theorem keyB_len (key : List UInt8) : (keyB key).length = 64 := by
  have := shortK_len key
  unfold keyB; rw [List.length_append, List.length_replicate]; omega
theorem padB_len (key : List UInt8) (c : UInt8) : (padB key c).length = 64 := by unfold padB; rw [List.length_map, keyB_len]
theorem macB_len (key b : List UInt8) : (macB key b).length = 32 := sum_len _
theorem keyB_long (key : List UInt8) (h : 64 < key.length) : keyB key = keyB (sum key) := by
  have e1 : shortK key = sum key := by unfold shortK; rw [if_pos h]
  have e2 : shortK (sum key) = sum key := by unfold shortK; rw [if_neg (by rw [sum_len]; decide)]
  unfold keyB; rw [e1, e2]
theorem macB_long (key b : List UInt8) (h : 64 < key.length) : macB key b = macB (sum key) b := by
  unfold macB padB; rw [keyB_long key h]
theorem keyB_zeros (key : List UInt8) (n : Nat) (h : key.length + n ≤ 64) : keyB (key ++ List.replicate n 0) = keyB key := by
  have e1 : shortK key = key := by unfold shortK; rw [if_neg (by omega)]
  have e2 : shortK (key ++ List.replicate n 0) = key ++ List.replicate n 0 := by unfold shortK; rw [if_neg (by rw [List.length_append, List.length_replicate]; omega)]
  unfold keyB; rw [e1, e2, List.append_assoc, List.replicate_append_replicate, List.length_append, List.length_replicate]
  congr 2; omega
theorem macB_zeros (key b : List UInt8) (n : Nat) (h : key.length + n ≤ 64) : macB (key ++ List.replicate n 0) b = macB key b := by
  unfold macB padB; rw [keyB_zeros key n h]
set_option maxRecDepth 100000 in
theorem macB_fox : hexB (macB [107, 101, 121] [84, 104, 101, 32, 113, 117, 105, 99, 107, 32, 98, 114, 111, 119, 110, 32, 102, 111, 120, 32, 106, 117, 109, 112, 115, 32, 111, 118, 101, 114, 32, 116, 104, 101, 32, 108, 97, 122, 121, 32, 100, 111, 103]) = [102, 55, 98, 99, 56, 51, 102, 52, 51, 48, 53, 51, 56, 52, 50, 52, 98, 49, 51, 50, 57, 56, 101, 54, 97, 97, 54, 102, 98, 49, 52, 51, 101, 102, 52, 100, 53, 57, 97, 49, 52, 57, 52, 54, 49, 55, 53, 57, 57, 55, 52, 55, 57, 100, 98, 99, 50, 100, 49, 97, 51, 99, 100, 56] := by decide +kernel

theorem ofInt8 (x : UInt8) : BitVec.ofInt 8 (x.toNat : Int) = x.toBitVec := by
  rw [BitVec.ofInt_natCast]; simp
theorem b_xor (x y : UInt8) : bits .xor .u8 (x.toNat : Int) (y.toNat : Int) = ((x ^^^ y).toNat : Int) := by
  have h : (x ^^^ y).toNat < 256 := (x ^^^ y).toNat_lt
  show IntKind.u8.wrap ((BitVec.ofInt 8 (x.toNat : Int) ^^^ BitVec.ofInt 8 (y.toNat : Int)).toNat : Int) = _
  rw [ofInt8, ofInt8, IntKind.wrap_u8]
  have e : (x.toBitVec ^^^ y.toBitVec).toNat = (x ^^^ y).toNat := rfl
  rw [e]; omega
theorem b_or (x y : UInt8) : bits .or .u8 (x.toNat : Int) (y.toNat : Int) = ((x ||| y).toNat : Int) := by
  have h : (x ||| y).toNat < 256 := (x ||| y).toNat_lt
  show IntKind.u8.wrap ((BitVec.ofInt 8 (x.toNat : Int) ||| BitVec.ofInt 8 (y.toNat : Int)).toNat : Int) = _
  rw [ofInt8, ofInt8, IntKind.wrap_u8]
  have e : (x.toBitVec ||| y.toBitVec).toNat = (x ||| y).toNat := rfl
  rw [e]; omega
theorem or_zero (x y : UInt8) : (x ||| y) = 0 ↔ x = 0 ∧ y = 0 := UInt8.or_eq_zero_iff
theorem xor_zero (x y : UInt8) : (x ^^^ y) = 0 ↔ x = y := UInt8.xor_eq_zero_iff

/-- The texts of words, one behind the other. -/
def textsB (ws : List ByteArray) : List UInt8 := (ws.map textB).flatten
theorem textsB_take (ws : List ByteArray) (i : Nat) (h : i < ws.length) : textsB (ws.take (i + 1)) = textsB (ws.take i) ++ textB ws[i] := by
  unfold textsB
  rw [List.take_add_one, List.getElem?_eq_getElem h, List.map_append, List.flatten_append]
  simp
def proofB (key : List UInt8) (ws : List ByteArray) : List UInt8 := if (∀ x ∈ ws, x.size ≤ 255) then hexB (macB key (textsB ws)) else []
end Go.Proofs.YtinbegnojfpeiaaDoor

/- The digits of a number, as lists: plain mathematics. -/
namespace Go.Proofs.YtinbegnojfpeiaaDoor
set_option linter.unusedVariables false
set_option maxRecDepth 100000
set_option linter.unusedSimpArgs false

/-- The cells of the row of L digits, of which the last k are told. -/
def dcells (b n L k : Nat) : Array Value := ((List.range L).map fun j => Value.int .u8 (if L ≤ j + k then ((n / b ^ (L - 1 - j) % b : Nat) : Int) else 0)).toArray

theorem dcells_none (b n L : Nat) : dcells b n L 0 = Array.replicate L (.int .u8 0) := by
  apply Array.ext
  · simp [dcells]
  · intro i h1 h2
    have : i < L := by simpa [dcells] using h1
    simp [dcells]; omega

theorem dcells_size (b n L k : Nat) : (dcells b n L k).size = L := by simp [dcells]

theorem dcells_at (b n L k i : Nat) (h : i < L) : (dcells b n L k)[i]? = some (.int .u8 (if L ≤ i + k then ((n / b ^ (L - 1 - i) % b : Nat) : Int) else 0)) := by
  simp [dcells, h]

theorem dcells_set (b n L k : Nat) (h : k < L) : (dcells b n L k).setIfInBounds (L - 1 - k) (.int .u8 ((n / b ^ k % b : Nat) : Int)) = dcells b n L (k + 1) := by
  apply Array.ext
  · simp [dcells]
  · intro i h1 h2
    have hi : i < L := by simpa [dcells] using h2
    rw [Array.getElem_setIfInBounds (by simpa [dcells] using hi)]
    by_cases he : L - 1 - k = i
    · subst he
      have e1 : L - 1 - (L - 1 - k) = k := by omega
      have e2 : L ≤ L - 1 - k + (k + 1) := by omega
      simp [dcells, e1, e2]
    · rw [if_neg he]
      have : (L ≤ i + k) ↔ (L ≤ i + (k + 1)) := by omega
      simp [dcells, this]

/-- The digits of n of base b, the highest first. -/
def dg (b n : Nat) : List Nat := if h : b < 2 ∨ n < b then [n] else dg b (n / b) ++ [n % b]
termination_by n
decreasing_by
  have : ¬ (b < 2 ∨ n < b) := h
  exact Nat.div_lt_self (by omega) (by omega)

/-- A number below b^L, and not below b^(L-1) but for L = 1, has L digits, each what division tells. -/
theorem dg_eq (b : Nat) (hb : 2 ≤ b) : ∀ (L n : Nat), 1 ≤ L → n < b ^ L → (L = 1 ∨ b ^ (L - 1) ≤ n) → dg b n = (List.range L).map fun j => n / b ^ (L - 1 - j) % b := by
  intro L
  induction L with
  | zero => intro n h; omega
  | succ L ih =>
    intro n _ hlt hge
    rw [dg]
    by_cases hL : L = 0
    · subst hL
      have : n < b := by simpa using hlt
      simp [this, Nat.mod_eq_of_lt this]
    · have hge' : b ^ L ≤ n := by rcases hge with h | h; omega; simpa using h
      have hbn : b ≤ n := Nat.le_trans (by calc b = b ^ 1 := by simp
                                            _ ≤ b ^ L := Nat.pow_le_pow_right (by omega) (by omega)) hge'
      have hn : ¬ (b < 2 ∨ n < b) := by omega
      rw [dif_neg hn, ih (n / b) (by omega) (by rw [Nat.div_lt_iff_lt_mul (by omega)]; rw [Nat.pow_succ] at hlt; exact hlt)]
      · rw [List.range_succ, List.map_append]
        congr 1
        · apply List.map_congr_left
          intro j hj
          have hj' : j < L := by simpa using hj
          rw [Nat.div_div_eq_div_mul, ← Nat.pow_succ']
          have : L - 1 - j + 1 = L + 1 - 1 - j := by omega
          rw [Nat.succ_eq_add_one, this]
        · simp
      · by_cases h1 : L = 1
        · exact .inl h1
        · refine .inr ?_
          rw [Nat.le_div_iff_mul_le (by omega), ← Nat.pow_succ]
          have : (L - 1).succ = L := by omega
          rw [this]; exact hge'

theorem dg_lt (b : Nat) (hb : 2 ≤ b) : ∀ (n : Nat), ∀ d ∈ dg b n, d < b := by
  intro n
  induction n using Nat.strongRecOn with
  | ind n ih =>
    rw [dg]
    by_cases h : b < 2 ∨ n < b
    · rw [dif_pos h]; intro d hd; simp at hd; omega
    · rw [dif_neg h]
      intro d hd
      rw [List.mem_append] at hd
      rcases hd with hd | hd
      · exact ih (n / b) (Nat.div_lt_self (by omega) (by omega)) d hd
      · simp at hd; rw [hd]; exact Nat.mod_lt _ (by omega)

theorem dg_pos (b n : Nat) : 0 < (dg b n).length := by
  rw [dg]; split <;> simp


/-- A number's bytes. -/
def putB (n : Nat) : List UInt8 := (if n < 128 then [] else (dg 128 (n / 128)).map fun d => UInt8.ofNat (d + 128)) ++ [UInt8.ofNat (n % 128)]
/-- A number's decimals. -/
def decB (n : Nat) : List UInt8 := (dg 10 n).map fun d => UInt8.ofNat (d + 48)

/-- The cells of which the first k are marked. -/
def pcells (a n b L k : Nat) : Array Value := ((List.range L).map fun j => Value.int .u8 (if j < k then ((n / b ^ (L - 1 - j) % b + a : Nat) : Int) else ((n / b ^ (L - 1 - j) % b : Nat) : Int))).toArray

theorem pcells_zero (a n b L : Nat) : pcells a n b L 0 = dcells b n L L := by
  unfold pcells dcells
  congr 1
  apply List.map_congr_left
  intro j hj
  rw [if_neg (by omega), if_pos (by omega)]

theorem pcells_at (a n b L k i : Nat) (h : i < L) : (pcells a n b L k)[i]? = some (.int .u8 (if i < k then ((n / b ^ (L - 1 - i) % b + a : Nat) : Int) else ((n / b ^ (L - 1 - i) % b : Nat) : Int))) := by
  simp [pcells, h]

theorem pcells_set (a n b L k : Nat) (h : k < L) : (pcells a n b L k).setIfInBounds k (.int .u8 ((n / b ^ (L - 1 - k) % b + a : Nat) : Int)) = pcells a n b L (k + 1) := by
  apply Array.ext
  · simp [pcells]
  · intro i h1 h2
    have hi : i < L := by simpa [pcells] using h2
    rw [Array.getElem_setIfInBounds (by simpa [pcells] using hi)]
    by_cases he : k = i
    · subst he
      simp [pcells]
    · rw [if_neg he]
      have : (i < k) ↔ (i < k + 1) := by omega
      simp [pcells, this]

theorem u8_ofNat (d : Nat) (h : d < 256) : (UInt8.ofNat d).toNat = d := by simp [UInt8.toNat_ofNat']; omega

theorem pcells_dec (n L : Nat) (h1 : 1 ≤ L) (hlt : n < 10 ^ L) (hge : L = 1 ∨ 10 ^ (L - 1) ≤ n) : pcells 48 n 10 L L = bcells (decB n) := by
  unfold pcells bcells decB
  rw [dg_eq 10 (by omega) L n h1 hlt hge, List.map_map, List.map_map]
  congr 1
  apply List.map_congr_left
  intro j hj
  have hj' : j < L := by simpa using hj
  have := Nat.mod_lt (n / 10 ^ (L - 1 - j)) (by omega : 10 > 0)
  simp only [Function.comp, if_pos hj']
  rw [u8, u8_ofNat _ (by omega)]

theorem pcells_put (n L : Nat) (h1 : 1 ≤ L) (hlt : n < 128 ^ L) (hge : L = 1 ∨ 128 ^ (L - 1) ≤ n) : pcells 128 n 128 L (L - 1) = bcells (putB n) := by
  obtain ⟨K, rfl⟩ : ∃ K, L = K + 1 := ⟨L - 1, by omega⟩
  unfold pcells bcells putB
  rw [List.range_succ, List.map_append, List.map_append]
  congr 1
  congr 1
  · by_cases hn : n < 128
    · have hK : K = 0 := by
        rcases hge with h | h
        · omega
        · rcases Nat.eq_zero_or_pos K with h0 | h0
          · exact h0
          · have : 128 ^ 1 ≤ 128 ^ K := Nat.pow_le_pow_right (by omega) h0
            have h' : 128 ^ K ≤ n := by simpa using h
            omega
      subst hK
      simp [hn]
    · have hK : 1 ≤ K := by
        rcases Nat.eq_zero_or_pos K with h0 | h0
        · subst h0; simp at hlt; omega
        · exact h0
      have hge' : 128 ^ K ≤ n := by rcases hge with h | h; omega; simpa using h
      rw [if_neg hn, dg_eq 128 (by omega) K (n / 128) hK (by rw [Nat.div_lt_iff_lt_mul (by omega)]; rw [Nat.pow_succ] at hlt; exact hlt), List.map_map, List.map_map]
      · apply List.map_congr_left
        intro j hj
        have hj' : j < K := by simpa using hj
        have e : n / 128 / 128 ^ (K - 1 - j) = n / 128 ^ (K - j) := by
          rw [Nat.div_div_eq_div_mul, ← Nat.pow_succ']
          have : (K - 1 - j).succ = K - j := by omega
          rw [this]
        have := Nat.mod_lt (n / 128 ^ (K - j)) (by omega : 128 > 0)
        simp only [Function.comp, Nat.add_sub_cancel, if_pos hj']
        rw [e, u8, u8_ofNat _ (by omega)]
      · by_cases hk1 : K = 1
        · exact .inl hk1
        · refine .inr ?_
          rw [Nat.le_div_iff_mul_le (by omega), ← Nat.pow_succ]
          have : (K - 1).succ = K := by omega
          rw [this]; exact hge'
  · simp
    omega

theorem putB_length (n L : Nat) (h1 : 1 ≤ L) (hlt : n < 128 ^ L) (hge : L = 1 ∨ 128 ^ (L - 1) ≤ n) : (putB n).length = L := by
  have h := congrArg Array.size (pcells_put n L h1 hlt hge)
  rw [bcells_size] at h
  rw [← h]; simp [pcells]
theorem decB_length (n L : Nat) (h1 : 1 ≤ L) (hlt : n < 10 ^ L) (hge : L = 1 ∨ 10 ^ (L - 1) ≤ n) : (decB n).length = L := by
  have h := congrArg Array.size (pcells_dec n L h1 hlt hge)
  rw [bcells_size] at h
  rw [← h]; simp [pcells]

end Go.Proofs.YtinbegnojfpeiaaDoor

/- Greater numbers have greater bytes, or more: plain mathematics. -/
namespace Go.Proofs.YtinbegnojfpeiaaDoor
set_option linter.unusedVariables false
set_option maxRecDepth 100000
set_option linter.unusedSimpArgs false

theorem dg_small {b x : Nat} (h : x < b) : dg b x = [x] := by rw [dg, dif_pos (.inr h)]
theorem dg_big {b x : Nat} (hb : 2 ≤ b) (h : ¬ x < b) : dg b x = dg b (x / b) ++ [x % b] := by
  rw [dg, dif_neg (by omega)]

/-- Fewer, or as many and less. -/
def slx (a b : List UInt8) : Bool := decide (a.length < b.length) || (a.length == b.length && Op.bytesLess a b)

theorem bytesLess_snoc : ∀ (x y : List UInt8) (c d : UInt8), x.length = y.length → Op.bytesLess (x ++ [c]) (y ++ [d]) = (Op.bytesLess x y || (x == y && decide (c < d))) := by
  intro x
  induction x with
  | nil =>
    intro y c d h
    have : y = [] := List.eq_nil_of_length_eq_zero h.symm
    subst this
    simp [Op.bytesLess]
  | cons a x ih =>
    intro y c d h
    cases y with
    | nil => simp at h
    | cons b y =>
      have h' : x.length = y.length := by simpa using h
      simp only [List.cons_append, Op.bytesLess, ih y c d h']
      by_cases hab : a = b
      · subst hab
        simp
      · have e1 : (a == b) = false := by simpa using hab
        simp [e1]

/-- Rows that end in one byte more each. -/
theorem slx_snoc (x y : List UInt8) (c d : UInt8) : slx (x ++ [c]) (y ++ [d]) = (slx x y || (x == y && decide (c < d))) := by
  unfold slx
  rw [List.length_append, List.length_append]
  by_cases h : x.length = y.length
  · rw [bytesLess_snoc x y c d h]
    have h1 : ¬ x.length < y.length := by omega
    simp [h]
  · have h2 : ¬ x = y := fun e => h (by rw [e])
    have e1 : (x == y) = false := by simpa using h2
    have e2 : (x.length == y.length) = false := by simpa using h
    simp [e1, e2]

section
variable (b : Nat) (hb : 2 ≤ b) (f g : Nat → UInt8) (hf : ∀ x y, x < b → y < b → (f x < f y ↔ x < y)) (hg : ∀ x y, x < b → y < b → (g x < g y ↔ x < y))
include hb hf

theorem map_inj : ∀ (x y : Nat), (dg b x).map f = (dg b y).map f → x = y := by
  have inj : ∀ x y, x < b → y < b → f x = f y → x = y := by
    intro x y hx hy h
    rcases Nat.lt_trichotomy x y with h1 | h1 | h1
    · have := (hf x y hx hy).2 h1; rw [h] at this; exact absurd this (by simp)
    · exact h1
    · have := (hf y x hy hx).2 h1; rw [h] at this; exact absurd this (by simp)
  intro x
  induction x using Nat.strongRecOn with
  | ind x ih =>
    intro y h
    by_cases hx : x < b <;> by_cases hy : y < b
    · rw [dg_small hx, dg_small hy] at h
      simp at h
      exact inj x y hx hy h
    · rw [dg_small hx, dg_big hb hy] at h
      have hl := congrArg List.length h
      have hp := dg_pos b (y / b)
      simp only [List.map_append, List.length_append, List.length_map, List.length_cons, List.length_nil] at hl
      omega
    · rw [dg_big hb hx, dg_small hy] at h
      have hl := congrArg List.length h
      have hp := dg_pos b (x / b)
      simp only [List.map_append, List.length_append, List.length_map, List.length_cons, List.length_nil] at hl
      omega
    · rw [dg_big hb hx, dg_big hb hy, List.map_append, List.map_append] at h
      have hl := congrArg List.length h
      simp only [List.length_append, List.length_map, List.length_cons, List.length_nil] at hl
      obtain ⟨h1, h2⟩ := List.append_inj h (by simp; omega)
      have e1 := ih (x / b) (Nat.div_lt_self (by omega) (by omega)) (y / b) h1
      simp at h2
      have e2 := inj (x % b) (y % b) (Nat.mod_lt _ (by omega)) (Nat.mod_lt _ (by omega)) h2
      rw [← Nat.div_add_mod x b, ← Nat.div_add_mod y b, e1, e2]

theorem slx_dg : ∀ (x y : Nat), slx ((dg b x).map f) ((dg b y).map f) = decide (x < y) := by
  intro x
  induction x using Nat.strongRecOn with
  | ind x ih =>
    intro y
    by_cases hx : x < b <;> by_cases hy : y < b
    · rw [dg_small hx, dg_small hy]
      have := hf x y hx hy
      by_cases h : x < y
      · have h1 := this.2 h
        simp [slx, Op.bytesLess, h, h1]
      · have h1 : ¬ f x < f y := fun h' => h (this.1 h')
        simp [slx, Op.bytesLess, h, h1]
    · have hl : (dg b y).length = (dg b (y / b)).length + 1 := by rw [dg_big hb hy]; simp
      have := dg_pos b (y / b)
      have hxl : (dg b x).length = 1 := by rw [dg_small hx]; rfl
      have h : x < y := by omega
      simp [slx, hl, hxl, h, this]
    · have hl : (dg b x).length = (dg b (x / b)).length + 1 := by rw [dg_big hb hx]; simp
      have := dg_pos b (x / b)
      have hyl : (dg b y).length = 1 := by rw [dg_small hy]; rfl
      have h : ¬ x < y := by omega
      have h2 : ¬ (dg b (x / b)).length = 0 := by omega
      simp [slx, hl, hyl, h, h2]
    · have ex := dg_big hb hx
      have ey := dg_big hb hy
      rw [ex, ey, List.map_append, List.map_append]
      show slx (_ ++ [f (x % b)]) (_ ++ [f (y % b)]) = _
      rw [slx_snoc, ih (x / b) (Nat.div_lt_self (by omega) (by omega)) (y / b)]
      have hm := hf (x % b) (y % b) (Nat.mod_lt _ (by omega)) (Nat.mod_lt _ (by omega))
      have dx := Nat.div_add_mod x b
      have dy := Nat.div_add_mod y b
      have mx := Nat.mod_lt x (by omega : b > 0)
      have my := Nat.mod_lt y (by omega : b > 0)
      rw [Bool.eq_iff_iff]
      simp only [Bool.or_eq_true, Bool.and_eq_true, decide_eq_true_eq, beq_iff_eq]
      rw [hm]
      constructor
      · rintro (h | ⟨h, h'⟩)
        · have : b * (x / b) + b ≤ b * (y / b) := by rw [← Nat.mul_succ]; exact Nat.mul_le_mul_left b h
          omega
        · have := map_inj b hb f hf _ _ h
          rw [this] at dx
          omega
      · intro h
        rcases Nat.lt_trichotomy (x / b) (y / b) with h1 | h1 | h1
        · exact .inl h1
        · right
          refine ⟨by rw [h1], ?_⟩
          rw [h1] at dx
          omega
        · have : b * (y / b) + b ≤ b * (x / b) := by rw [← Nat.mul_succ]; exact Nat.mul_le_mul_left b h1
          omega

include hg

/-- Rows whose last digit is told otherwise. -/
theorem slx_mark (x y : Nat) : slx ((if x < b then [] else (dg b (x / b)).map f) ++ [g (x % b)]) ((if y < b then [] else (dg b (y / b)).map f) ++ [g (y % b)]) = decide (x < y) := by
  rw [slx_snoc]
  have hm := hg (x % b) (y % b) (Nat.mod_lt _ (by omega)) (Nat.mod_lt _ (by omega))
  have dx := Nat.div_add_mod x b
  have dy := Nat.div_add_mod y b
  have mx := Nat.mod_lt x (by omega : b > 0)
  have my := Nat.mod_lt y (by omega : b > 0)
  rw [Bool.eq_iff_iff]
  simp only [Bool.or_eq_true, Bool.and_eq_true, decide_eq_true_eq, beq_iff_eq]
  rw [hm]
  by_cases hx : x < b <;> by_cases hy : y < b
  · rw [if_pos hx, if_pos hy, Nat.mod_eq_of_lt hx, Nat.mod_eq_of_lt hy]
    simp [slx, Op.bytesLess]
  · rw [if_pos hx, if_neg hy]
    have := dg_pos b (y / b)
    have h : x < y := by omega
    simp [slx, h, this]
  · rw [if_neg hx, if_pos hy]
    have := dg_pos b (x / b)
    have h : ¬ x < y := by omega
    have h2 : dg b (x / b) ≠ [] := fun e => by rw [e] at this; simp at this
    simp [slx, h, h2, Op.bytesLess]
  · rw [if_neg hx, if_neg hy, slx_dg b hb f hf]
    simp only [decide_eq_true_eq]
    constructor
    · rintro (h | ⟨h, h'⟩)
      · have : b * (x / b) + b ≤ b * (y / b) := by rw [← Nat.mul_succ]; exact Nat.mul_le_mul_left b h
        omega
      · have := map_inj b hb f hf _ _ h
        rw [this] at dx
        omega
    · intro h
      rcases Nat.lt_trichotomy (x / b) (y / b) with h1 | h1 | h1
      · exact .inl h1
      · right
        refine ⟨by rw [h1], ?_⟩
        rw [h1] at dx
        omega
      · have : b * (y / b) + b ≤ b * (x / b) := by rw [← Nat.mul_succ]; exact Nat.mul_le_mul_left b h1
        omega
end

theorem ofNat_lt (a x y : Nat) (hx : x + a < 256) (hy : y + a < 256) : (UInt8.ofNat (x + a) < UInt8.ofNat (y + a)) ↔ x < y := by
  rw [UInt8.lt_iff_toNat_lt, u8_ofNat _ hx, u8_ofNat _ hy]; omega

theorem putB_less (x y : Nat) : slx (putB x) (putB y) = decide (x < y) :=
  slx_mark 128 (by omega) (fun d => UInt8.ofNat (d + 128)) (fun d => UInt8.ofNat d) (fun x y hx hy => ofNat_lt 128 x y (by omega) (by omega)) (fun x y hx hy => ofNat_lt 0 x y (by omega) (by omega)) x y
theorem decB_less (x y : Nat) : slx (decB x) (decB y) = decide (x < y) :=
  slx_dg 10 (by omega) (fun d => UInt8.ofNat (d + 48)) (fun x y hx hy => ofNat_lt 48 x y (by omega) (by omega)) x y
theorem putB_inj (x y : Nat) (h : putB x = putB y) : x = y := by
  have h1 := putB_less x y
  have h2 := putB_less y x
  rw [h] at h1 h2
  rw [h1] at h2
  have := decide_eq_decide.1 h2
  omega
theorem decB_inj (x y : Nat) (h : decB x = decB y) : x = y :=
  map_inj 10 (by omega) (fun d => UInt8.ofNat (d + 48)) (fun x y hx hy => ofNat_lt 48 x y (by omega) (by omega)) x y h

theorem dg_head' (b : Nat) (hb : 2 ≤ b) : ∀ n : Nat, 0 < n → ∃ d r, dg b n = d :: r ∧ d ≠ 0 := by
  intro n
  induction n using Nat.strongRecOn with
  | ind n ih =>
    intro hn
    rw [dg]
    by_cases h : b < 2 ∨ n < b
    · rw [dif_pos h]; exact ⟨n, [], rfl, by omega⟩
    · rw [dif_neg h]
      obtain ⟨d, r, e, hd⟩ := ih (n / b) (Nat.div_lt_self (by omega) (by omega)) (Nat.div_pos (by omega) (by omega))
      exact ⟨d, r ++ [n % b], by rw [e]; rfl, hd⟩

/-- A text of its bytes. -/
def bs (l : List UInt8) : ByteArray := ⟨l.toArray⟩
theorem bs_list (l : List UInt8) : (bs l).toList = l := by rw [ByteArray.toList_eq]; simp [bs]
theorem bs_size (l : List UInt8) : (bs l).size = l.length := by simp [bs, ByteArray.size]
theorem bs_inj {a b : List UInt8} (h : bs a = bs b) : a = b := by rw [← bs_list a, ← bs_list b, h]
theorem bs_of (s : ByteArray) : bs s.data.toList = s := by cases s; simp [bs]
theorem bs_data (l : List UInt8) : (bs l).data.toList = l := by simp [bs]

theorem dg_len (b : Nat) (hb : 2 ≤ b) : ∀ n, (dg b n).length ≤ n + 1 := by
  intro n
  induction n using Nat.strongRecOn with
  | ind n ih =>
    by_cases h : n < b
    · rw [dg_small h]; simp
    · have := ih (n / b) (Nat.div_lt_self (by omega) (by omega))
      have h2 : n / b < n := Nat.div_lt_self (by omega) (by omega)
      rw [dg_big hb h, List.length_append]; simp; omega
theorem decB_len (x : Nat) (hx : x ≤ 1099511627776) : (decB x).length ≤ 140737488355328 := by
  have := dg_len 10 (by omega) x
  unfold decB; rw [List.length_map]; omega
theorem putB_len (x : Nat) (hx : x ≤ 1099511627776) : (putB x).length ≤ 140737488355328 := by
  have := dg_len 128 (by omega) (x / 128)
  unfold putB
  split <;> simp <;> omega
end Go.Proofs.YtinbegnojfpeiaaDoor
