/- SumL, Text, MacM, ConvR, Lib1, Ke, VtM, CgY, HeldL: texts of this seat, one behind the other. -/
import Derived.Test.YtekobdmlgbffnaaGreatDoorSum
import Derived.Test.YtekobdmlgbffnaaGreatDoorRows
import Derived.Test.YtekobdmlgbffnaaGreatDoorG3
import Derived.Test.YtekobdmlgbffnaaGreatDoorG2
import Derived.Test.YtekobdmlgbffnaaGreatDoorG1
import Derived.Test.YtekobdmlgbffnaaGreatDoorG8
import Derived.Test.YtekobdmlgbffnaaGreatDoorG4
import Derived.Test.YtekobdmlgbffnaaGreatDoorG6
import Derived.Laws.CopyOwn
import Derived.Test.YtekobdmlgbffnaaGreatDoorCg6
import Derived.Test.YtekobdmlgbffnaaGreatDoorCg2
import Derived.Deep.RegionHeld3
/- The sum's length, and 32 bytes in memory. -/
namespace Go.Proofs.YtekobdmlgbffnaaGreatDoor
set_option linter.unusedVariables false
set_option maxRecDepth 100000
set_option linter.unusedSimpArgs false
open Go.RowKit

theorem sum_len (l : List UInt8) : (sum l).length = 32 := by unfold sum outB; rw [List.length_map, List.length_range]
/-- The place of 32 bytes that the call has made. -/
theorem zeros_new (w : World) : Bk (w.alloc (.cells #[.int .u8 0, .int .u8 0, .int .u8 0, .int .u8 0, .int .u8 0, .int .u8 0, .int .u8 0, .int .u8 0, .int .u8 0, .int .u8 0, .int .u8 0, .int .u8 0, .int .u8 0, .int .u8 0, .int .u8 0, .int .u8 0, .int .u8 0, .int .u8 0, .int .u8 0, .int .u8 0, .int .u8 0, .int .u8 0, .int .u8 0, .int .u8 0, .int .u8 0, .int .u8 0, .int .u8 0, .int .u8 0, .int .u8 0, .int .u8 0, .int .u8 0, .int .u8 0] 189)) w.heap.size 189 (bcells (List.replicate 32 0)) := Bk.new w 189 _
end Go.Proofs.YtekobdmlgbffnaaGreatDoor

/- num.Text: its contract. -/
namespace Go.Proofs.YtekobdmlgbffnaaGreatDoor
set_option linter.unusedVariables false
set_option maxRecDepth 100000
set_option linter.unusedSimpArgs false
open Go.RowKit

/-- A text's bytes; nothing, if it is too long. -/
def textB (s : ByteArray) : List UInt8 := if s.size ≤ 255 then UInt8.ofNat s.size :: s.data.toList else []

theorem byInfo : (Tryz.prog.info? 5).map (fun i => (i.zero, i.size, i.bytes)) = some (some (.int .u8 0), 1, 1) := by kernel_rfl

set_option maxHeartbeats 1000000 in
theorem text_ok (s : ByteArray) (w : World) (hs : s.size ≤ 140737488355328) :
    Calls Tryz.prog 122 #[.string s] w fun e w' => ∃ A c, e = .returned (.slice A (textB s).length c) ∧ OB w' w.heap.size 5 A c (textB s) ∧ Below w.heap.size w w' := by
  by_cases hle : s.size ≤ 255
  · obtain ⟨l, hl⟩ : ∃ l, l = textB s := ⟨_, rfl⟩
    rw [← hl]
    have hl2 : l = [UInt8.ofNat s.size] ++ s.data.toList := by rw [hl, textB, if_pos hle]; rfl
    have HL := Lib.hid hl2
    clear hl hl2
    have e8 : (UInt8.ofNat s.size).toNat = s.size := by simp [UInt8.toNat_ofNat']; omega
    have HE8 := Lib.hid e8
    have hmk : (Instr.makeSlice 98 (.int .i64 0) (.int .i64 (1 + (s.size : Int)))).run Tryz.prog w = .ok (.slice (some ⟨w.heap.size, 0, none⟩) 0 (1 + s.size)) (w.alloc (.cells (Array.replicate (1 + s.size) (.int .u8 0)) 5)) := by
      have := mk_empty (P := Tryz.prog) w 98 5 Tryz.underlying98 byInfo (1 + s.size) (by omega)
      rw [← this]; congr 2
    clear e8
    have h1 := OB.made (B := w.heap.size) w 5 (1 + s.size) (Nat.le_refl _) (by omega)
    have hb1 : Below w.heap.size w (w.alloc (.cells (Array.replicate (1 + s.size) (.int .u8 0)) 5)) := by go_grown
    have hsz : (w.alloc (.cells (Array.replicate (1 + s.size) (.int .u8 0)) 5)).heap.size = w.heap.size + 1 := by simp
    generalize w.alloc (.cells (Array.replicate (1 + s.size) (.int .u8 0)) 5) = w1 at hmk h1 hb1 hsz
    have h2 := Lib.hid (h1.alloc (.cells #[.int .u8 (s.size : Int)] 5))
    have h3 := Lib.hid (Rb.one (w := w1) (t := 5) (c := UInt8.ofNat s.size) (v := (s.size : Int)) (n := w1.heap.size) rfl (by rw [HE8.out]))
    have hsz2 : w.heap.size ≤ w1.heap.size := by omega
    have hb2 : Below w.heap.size w (w1.alloc (.cells #[.int .u8 (s.size : Int)] 5)) := hb1.alloc hsz2 _
    clear hsz h1
    go_enter Tryz.func122, Tryz.ntmps122
    go_wp2_with (first
      | (at_builtin; refine wp_app rfl (.tmp 11) (.tmp 15) 98 5 rfl Tryz.underlying98 byInfo w.heap.size [] _ _ _ rfl rfl h2.out [UInt8.ofNat s.size] _ _ _ _ rfl rfl h3.out (by simp) hb2.size ?_; intro A2 c2 w2 ho hg hb)
      | (at_builtin; refine wp_app_str rfl (.tmp 17) (.tmp 18) 98 9 5 rfl Tryz.underlying98 Tryz.underlying9 byInfo w.heap.size _ _ _ _ rfl rfl ho s rfl (by simp only [List.nil_append, List.length_cons, List.length_nil]; omega) (Nat.le_trans hb2.size hb.size) ?_; intro A3 c3 w3 ho3 hg3 hb3))
    have hll : l.length = s.size + 1 := by rw [HL.out, List.length_append]; show 1 + s.size = s.size + 1; omega
    have hO : OB w3 w.heap.size 5 A3 c3 l := by rw [HL.out]; exact ho3
    go_ret
    exact ⟨A3, c3, by rw [hll]; rfl, hO, (hb2.trans hb).trans hb3⟩
  · have hl : textB s = [] := by rw [textB, if_neg hle]
    rw [hl]
    go_enter Tryz.func122, Tryz.ntmps122
    go_wp2
    go_ret
    exact ⟨none, 0, rfl, OB.nil _ _ _, Below.refl _ _⟩
end Go.Proofs.YtekobdmlgbffnaaGreatDoor

/- Sums under keys (HMAC), proofs of words: what the document asks, as Lean functions. -/
namespace Go.Proofs.YtekobdmlgbffnaaGreatDoor
set_option linter.unusedVariables false
set_option maxRecDepth 100000
set_option linter.unusedSimpArgs false
open Go.RowKit

/-- A key of at most 64 bytes. -/
def shortK (key : List UInt8) : List UInt8 := if 64 < key.length then sum key else key
/-- A key of 64 bytes. -/
def keyB (key : List UInt8) : List UInt8 := shortK key ++ List.replicate (64 - (shortK key).length) 0
def padB (key : List UInt8) (c : UInt8) : List UInt8 := (keyB key).map fun x => x ^^^ c
def macB (key b : List UInt8) : List UInt8 := sum (padB key 92 ++ sum (padB key 54 ++ b))
theorem shortK_len (key : List UInt8) : (shortK key).length ≤ 64 := by
  unfold shortK
  split
  · rw [sum_len]; decide
  · omega
theorem keyB_len (key : List UInt8) : (keyB key).length = 64 := by
  have := shortK_len key
  unfold keyB; rw [List.length_append, List.length_replicate]; omega
theorem padB_len (key : List UInt8) (c : UInt8) : (padB key c).length = 64 := by unfold padB; rw [List.length_map, keyB_len]
theorem macB_len (key b : List UInt8) : (macB key b).length = 32 := sum_len _
theorem ofInt8 (x : UInt8) : BitVec.ofInt 8 (x.toNat : Int) = x.toBitVec := by
  rw [BitVec.ofInt_natCast]; simp
theorem b_xor (x y : UInt8) : bits .xor .u8 (x.toNat : Int) (y.toNat : Int) = ((x ^^^ y).toNat : Int) := by
  have h : (x ^^^ y).toNat < 256 := (x ^^^ y).toNat_lt
  show IntKind.u8.wrap ((BitVec.ofInt 8 (x.toNat : Int) ^^^ BitVec.ofInt 8 (y.toNat : Int)).toNat : Int) = _
  rw [ofInt8, ofInt8, IntKind.wrap_u8]
  have e : (x.toBitVec ^^^ y.toBitVec).toNat = (x ^^^ y).toNat := rfl
  rw [e]; omega
theorem b_or (x y : UInt8) : bits .or .u8 (x.toNat : Int) (y.toNat : Int) = ((x ||| y).toNat : Int) := by
  have h : (x ||| y).toNat < 256 := (x ||| y).toNat_lt
  show IntKind.u8.wrap ((BitVec.ofInt 8 (x.toNat : Int) ||| BitVec.ofInt 8 (y.toNat : Int)).toNat : Int) = _
  rw [ofInt8, ofInt8, IntKind.wrap_u8]
  have e : (x.toBitVec ||| y.toBitVec).toNat = (x ||| y).toNat := rfl
  rw [e]; omega
theorem or_zero (x y : UInt8) : (x ||| y) = 0 ↔ x = 0 ∧ y = 0 := UInt8.or_eq_zero_iff
theorem xor_zero (x y : UInt8) : (x ^^^ y) = 0 ↔ x = y := UInt8.xor_eq_zero_iff

/-- The texts of words, one behind the other. -/
def textsB (ws : List ByteArray) : List UInt8 := (ws.map textB).flatten
theorem textsB_take (ws : List ByteArray) (i : Nat) (h : i < ws.length) : textsB (ws.take (i + 1)) = textsB (ws.take i) ++ textB ws[i] := by
  unfold textsB
  rw [List.take_add_one, List.getElem?_eq_getElem h, List.map_append, List.flatten_append]
  simp
def proofB (key : List UInt8) (ws : List ByteArray) : List UInt8 := if (∀ x ∈ ws, x.size ≤ 255) then hexB (macB key (textsB ws)) else []
end Go.Proofs.YtekobdmlgbffnaaGreatDoor

/- string(b) in a region that draws its order. Nothing of the program is named here. -/
namespace Go.Proofs.YtekobdmlgbffnaaGreatDoor
set_option linter.unusedVariables false
set_option maxRecDepth 100000
set_option linter.unusedSimpArgs false
open Go.RowKit

end Go.Proofs.YtekobdmlgbffnaaGreatDoor

/- Small words for walks over slices of bytes. -/
namespace Go.Proofs.YtekobdmlgbffnaaGreatDoor
set_option linter.unusedVariables false
set_option maxRecDepth 100000
set_option linter.unusedSimpArgs false
open Go.RowKit

theorem Rb.on {u u' : World} {A : Option Addr} {l : List UInt8} (h : Rb u u.heap.size A l) (hb : Below u.heap.size u u') : Rb u' u'.heap.size A l := (h.below hb (Nat.le_refl _)).more hb.size
theorem OB.nil_ {w : World} {B : Nat} {e : TypeId} {A : Option Addr} {c : Nat} {l : List UInt8} (h : OB w B e A c l) (hA : A = none) : l.length = 0 ∧ c = 0 := by
  rcases h.2 with ⟨hv, h0⟩ | ⟨g, cap, cur, hv, _⟩
  · injection hv with _ _ h3
    exact ⟨h0, h3⟩
  · rw [hA] at hv; cases hv
/-- min of two numbers, as one operation. -/
theorem op_min {P : Program} {o : Oper} {a : Act} {K : Act → World → Prop} {Q : Exit → Act → World → Prop} {w : World} (x y : Operand) (t : TypeId) (ho : o.op = .call { callee := .builtin .min, args := #[x, y], argTypes := #[t, t] }) (u v m : Int) (hx : a.eval x = .int .i64 u) (hy : a.eval y = .int .i64 v) (hm : min u v = m)
    (h : K (a.put o.dst (.int .i64 m)) w) : o.wp P a w K Q := by
  subst hm
  have e : (if v < u then v else u) = min u v := by split <;> omega
  have hr : (Builtin.min_ #[t, t] o.type #[.int .i64 u, .int .i64 v]).run P w = .ok (.int .i64 (min u v)) w := by rw [← e]; simp [Builtin.min_, Builtin.min2]
  unfold Oper.wp execOp
  simp only [ho, resolve, invoke, builtin, Sem.run_bind, Sem.run_pure, Result.andThen_ok, List.map_toArray, List.map_cons, List.map_nil, hx, hy, hr]
  exact h
/-- The same in a region that draws nothing. -/
theorem wpList_min {P : Program} {ops : Array Oper} {rest : List Oper} {o : Oper} {a : Act} {Q : Exit → Act → World → Prop} {w : World} (hgd : o.guard = none) (x y : Operand) (t : TypeId) (ho : o.op = .call { callee := .builtin .min, args := #[x, y], argTypes := #[t, t] }) (u v m : Int) (hx : a.eval x = .int .i64 u) (hy : a.eval y = .int .i64 v) (hm : min u v = m)
    (h : wpList P ops Q rest (a.put o.dst (.int .i64 m)) w) : wpList P ops Q (o :: rest) a w :=
  wpList_plain hgd fun K hK => op_min x y t ho u v m hx hy hm (hK _ _ h)
end Go.Proofs.YtekobdmlgbffnaaGreatDoor

/- What turns in memory: all that was there is as it was, but in some blocks. Slices of bytes that lie away from some blocks. copy as one operation. Nothing of the program is named here. -/
namespace Go.Proofs.YtekobdmlgbffnaaGreatDoor
set_option linter.unusedVariables false
set_option maxRecDepth 100000
set_option linter.unusedSimpArgs false
open Go.RowKit

/-- But in the blocks of L, all that was there is as it was. -/
structure Ke (L : List Nat) (w w' : World) : Prop where
  os : w'.os = w.os
  tape : w'.tape = w.tape
  output : w'.output = w.output
  size : w.heap.size ≤ w'.heap.size
  block : ∀ k, k < w.heap.size → k ∉ L → w'.heap[k]? = w.heap[k]?

theorem Ke.refl (L : List Nat) (w : World) : Ke L w w := ⟨rfl, rfl, rfl, Nat.le_refl _, fun _ _ _ => rfl⟩
theorem Ke.trans {L : List Nat} {a b c : World} (h : Ke L a b) (k : Ke L b c) : Ke L a c :=
  ⟨k.os.trans h.os, k.tape.trans h.tape, k.output.trans h.output, Nat.le_trans h.size k.size, fun i hi hL => (k.block i (Nat.lt_of_lt_of_le hi h.size) hL).trans (h.block i hi hL)⟩
theorem Ke.more {L L' : List Nat} {a b : World} (h : Ke L a b) (hL : ∀ x ∈ L, x ∈ L') : Ke L' a b := ⟨h.os, h.tape, h.output, h.size, fun k hk hn => h.block k hk (fun hx => hn (hL k hx))⟩
theorem Ke.nil {L : List Nat} {a b : World} (h : Ke [] a b) : Ke L a b := h.more (fun x hx => by cases hx)
theorem Ke.drew {L : List Nat} {a b : World} (h : Ke L a b) : Ke L a b.drew := ⟨h.os, h.tape, h.output, h.size, h.block⟩
theorem Ke.alloc {L : List Nat} {a b : World} (h : Ke L a b) (o : Obj) : Ke L a (b.alloc o) := h.trans ⟨rfl, rfl, rfl, by simp, fun k hk _ => Below.heap_alloc _ _ _ hk⟩
theorem Ke.set {L : List Nat} {a b : World} (h : Ke L a b) {p : Addr} (hp : p.block ∈ L) (u : Value) : Ke L a (b.setCell p u) :=
  h.trans ⟨rfl, rfl, rfl, by simp [World.setCell], fun k hk hn => Below.heap_setCell _ _ _ _ (fun e => hn (e ▸ hp))⟩
theorem Ke.row {L : List Nat} {a b : World} (h : Ke L a b) {g : Nat} (hg : g ∈ L) (cs : Array Value) : Ke L a (b.setRow g cs) :=
  h.trans ⟨rfl, rfl, rfl, by simp [World.setRow], fun k hk hn => setRow_other _ _ _ _ (fun e => hn (e ▸ hg))⟩
/-- A block that is behind all that was there may turn as it likes. -/
theorem Ke.new {L : List Nat} {g : Nat} {a b : World} (h : Ke (g :: L) a b) (hg : a.heap.size ≤ g) : Ke L a b :=
  ⟨h.os, h.tape, h.output, h.size, fun k hk hn => h.block k hk (fun hx => by
    rcases List.mem_cons.1 hx with rfl | hx
    · omega
    · exact hn hx)⟩
theorem Ke.of {w w' : World} (h : Below w.heap.size w w') : Ke [] w w' := ⟨h.os, h.tape, h.output, h.size, fun k hk _ => h.block k hk⟩
theorem Ke.below {L : List Nat} {w w' : World} {B : Nat} (h : Ke L w w') (hB : B ≤ w.heap.size) (hL : ∀ x ∈ L, B ≤ x) : Below B w w' :=
  ⟨h.os, h.tape, h.output, h.size, fun k hk => h.block k (by omega) (fun hx => by have := hL k hx; omega)⟩

theorem Bk.ke {L : List Nat} {w w' : World} {g : Nat} {t : TypeId} {cs : Array Value} (h : Bk w g t cs) (k : Ke L w w') (hg : g ∉ L) : Bk w' g t cs := (k.block g h.lt hg).trans h
theorem Bk.row {w : World} {g : Nat} {t : TypeId} {cs : Array Value} (h : Bk w g t cs) (ds : Array Value) : Bk (w.setRow g ds) g t ds := setRow_heap w g cs ds t _ h
/-- The slice at A reads as the bytes l, and lies in none of the blocks of L. -/
def Rf (w : World) (L : List Nat) (A : Option Addr) (l : List UInt8) : Prop :=
  l = [] ∨ ∃ b o, A = some ⟨b, o, none⟩ ∧ b ∉ L ∧ b < w.heap.size ∧ ∀ i, (h : i < l.length) → w.cell? ⟨b, o + i, none⟩ = some (.int .u8 ((l[i]).toNat : Int))

theorem Rf.rb {w : World} {L : List Nat} {A : Option Addr} {l : List UInt8} (h : Rf w L A l) : Rb w w.heap.size A l := by
  rcases h with h | ⟨b, o, e, _, hb, hc⟩
  · exact .inl h
  · exact .inr ⟨b, o, e, hb, hc⟩
theorem Rf.ke {w w' : World} {L L' : List Nat} {A : Option Addr} {l : List UInt8} (h : Rf w L A l) (k : Ke L' w w') (hL : ∀ x ∈ L', x ∈ L) : Rf w' L A l := by
  rcases h with h | ⟨b, o, e, hn, hb, hc⟩
  · exact .inl h
  · exact .inr ⟨b, o, e, hn, Nat.lt_of_lt_of_le hb k.size, fun i hi => (World.cell?_of_block (w := w) (a := ⟨b, o + i, none⟩) (k.block b hb (fun hx => hn (hL b hx)))).trans (hc i hi)⟩
theorem Rf.less {w : World} {L L' : List Nat} {A : Option Addr} {l : List UInt8} (h : Rf w L A l) (hL : ∀ x ∈ L', x ∈ L) : Rf w L' A l := by
  rcases h with h | ⟨b, o, e, hn, hb, hc⟩
  · exact .inl h
  · exact .inr ⟨b, o, e, fun hx => hn (hL b hx), hb, hc⟩
theorem Rf.bk {w : World} {L : List Nat} {g : Nat} {t : TypeId} {l : List UInt8} (h : Bk w g t (bcells l)) (hg : g ∉ L) : Rf w L (some ⟨g, 0, none⟩) l :=
  .inr ⟨g, 0, rfl, hg, h.lt, fun i hi => by rw [h.cell, Nat.zero_add, bcells_at l i hi]⟩
theorem Rf.front {w : World} {L : List Nat} {A : Option Addr} {l : List UInt8} (h : Rf w L A l) (n : Nat) : Rf w L A (l.take n) := by
  rcases h with h | ⟨b, o, e, hn, hb, hc⟩
  · left; rw [h]; simp
  · exact .inr ⟨b, o, e, hn, hb, fun i hi => by
      have hi' : i < l.length := by rw [List.length_take] at hi; omega
      rw [hc i hi', List.getElem_take]⟩
theorem Rf.tail {w : World} {L : List Nat} {A : Option Addr} {l : List UInt8} {c : Nat} (h : Rf w L A l) (lo : Nat) (hc : l.length ≤ c) : Rf w L (tailA A c lo) (l.drop lo) := by
  by_cases h0 : l.drop lo = []
  · left; exact h0
  · have hlo : lo < l.length := by
      rcases Nat.lt_or_ge lo l.length with h1 | h1
      · exact h1
      · exact absurd (List.drop_of_length_le h1) h0
    rcases h with h | ⟨b, o, e, hn, hb, hcl⟩
    · rw [h] at hlo; simp at hlo
    · subst e
      have e2 : tailA (some ⟨b, o, none⟩) c lo = some ⟨b, o + lo, none⟩ := by
        unfold tailA
        rw [if_neg (by omega)]
        simp only [Option.map_some, Nat.mul_one, Addr.add]
        split <;> simp_all
      rw [e2]
      refine .inr ⟨b, o + lo, rfl, hn, hb, fun i hi => ?_⟩
      have hi' : lo + i < l.length := by rw [List.length_drop] at hi; omega
      have := hcl (lo + i) hi'
      rw [← Nat.add_assoc] at this
      rw [this, List.getElem_drop]

end Go.Proofs.YtekobdmlgbffnaaGreatDoor

/- Vaults: what the document asks, as Lean functions; what blocks of cells keep when a map turns. -/
namespace Go.Proofs.YtekobdmlgbffnaaGreatDoor
set_option linter.unusedVariables false
set_option maxRecDepth 100000
set_option linter.unusedSimpArgs false
open Go.RowKit

def tkN (l : List Tn) (a b : ByteArray) : Option Tk := fK b ((l.find? fun t => nmEq t.name a).getD zeroTn).toks
def tkT (l : List Tv) (a b : ByteArray) : Option Tk := fK b ((fT a l).getD zeroTv).t.toks
theorem fT_tens (s : ByteArray) (l : List Tv) : ((fT s l).getD zeroTv).t = ((l.map (·.t)).find? fun t => nmEq t.name s).getD zeroTn := by
  unfold fT
  rw [List.find?_map]
  have : ((fun t : Tn => nmEq t.name s) ∘ fun x : Tv => x.t) = fun x : Tv => nmEq x.t.name s := rfl
  rw [this]
  cases l.find? (fun x : Tv => nmEq x.t.name s) <;> rfl
theorem tkT_is (l : List Tv) (a b : ByteArray) : tkT l a b = tkN (l.map (·.t)) a b := by
  unfold tkT tkN; rw [fT_tens]
/-- What is kept of a tenant. -/
def kpT (t : Tn) : Tn := ⟨t.name, 0, 0, [], t.toks⟩
theorem tkN_kept (l : List Tn) (a b : ByteArray) : tkN (l.map kpT) a b = tkN l a b := by
  unfold tkN
  congr 1
  rw [List.find?_map]
  have : ((fun t : Tn => nmEq t.name a) ∘ kpT) = fun t : Tn => nmEq t.name a := rfl
  rw [this]
  cases l.find? (fun t : Tn => nmEq t.name a) <;> rfl
theorem fK_name {s : ByteArray} {l : List Tk} {k : Tk} (h : fK s l = some k) : k.name = s ∧ k ∈ l := by
  unfold fK at h
  have h1 := List.find?_some h
  exact ⟨nmEq_iff.1 h1, List.mem_of_find?_eq_some h⟩
/-- The tenant that a token was found of. -/
theorem tkT_name {l : List Tv} {a b : ByteArray} {k : Tk} (h : tkT l a b = some k) : ((fT a l).getD zeroTv).t.name = a ∧ k.name = b := by
  unfold tkT at h
  refine ⟨?_, (fK_name h).1⟩
  cases hq : fT a l with
  | none => rw [hq] at h; cases h
  | some y => exact nmEq_iff.1 (fT_mem hq).2
theorem tkN_till {c : Cg} (hc : cfgB c = true) {a b : ByteArray} {k : Tk} (h : tkN c.tens a b = some k) : 0 ≤ k.till ∧ k.till ≤ 1099511627776 ∧ 1 ≤ k.sec.size ∧ k.sec.size ≤ 32 := by
  obtain ⟨_, _, _, _, _, _, h7⟩ := cfgB_parts hc
  unfold tkN at h
  cases hq : c.tens.find? (fun t => nmEq t.name a) with
  | none => rw [hq] at h; cases h
  | some y =>
    rw [hq] at h
    obtain ⟨_, _, _, _, _, _, a7⟩ := tenB_parts (h7 y (List.mem_of_find?_eq_some hq))
    have := a7 k (fK_name h).2
    unfold tokB at this
    simp only [Bool.and_eq_true, decide_eq_true_eq] at this
    omega

abbrev Rev := List (ByteArray × ByteArray)
/-- Was it revoked? -/
def inR (g : Rev) (a b : ByteArray) : Bool := g.any fun p => nmEq p.1 a && nmEq p.2 b
def gdB (o : Option Tk) (r : Bool) (now : Int) : Bool := match o with
  | none => false
  | some k => !r && decide (now < k.till)
def wnB (o : Option Tk) (a b n : ByteArray) : List UInt8 := match o with
  | none => []
  | some k => proofB k.sec.data.toList [a, b, n]
def rvB (o : Option Tk) (r : Bool) : Bool := match o with
  | none => false
  | some _ => !r
/-- What is revoked behind that. -/
def rvG (o : Option Tk) (g : Rev) (a b : ByteArray) : Rev := match o with
  | none => g
  | some _ => (a, b) :: g
def ckI (good : Bool) (want : List UInt8) (proof : ByteArray) : Int := if good = false then 3 else if want = [] ∨ want ≠ proof.data.toList then 101 else 0
theorem inR_cons (a b : ByteArray) (g : Rev) (x y : ByteArray) : inR ((a, b) :: g) x y = ((nmEq a x && nmEq b y) || inR g x y) := by
  unfold inR; rw [List.any_cons]

/-! ### What stays when a map turns -/
theorem not_cell {w : World} {mb : Nat} {es : Array MapEntry} {ck : Nat} (hm : w.heap[mb]? = some (.map es ck)) (o : Nat) : w.cell? ⟨mb, o, none⟩ = none := by
  unfold World.cell?
  simp [hm]
theorem Rw.ke {β : Type} {k : Nat} {f : β → Array Value} {w w' : World} {A : Option Addr} {l : List β} {mb : Nat} {es : Array MapEntry} {ck : Nat} (hk : 0 < k) (hf : ∀ x, (f x).size = k) (h : Rw k f w A l) (K : Ke [mb] w w') (hm : w.heap[mb]? = some (.map es ck)) : Rw k f w' A l := by
  rcases h with h | ⟨b, o, e, hlt, hc⟩
  · exact .inl h
  · by_cases h0 : l = []
    · exact .inl h0
    · have hne : b ≠ mb := by
        intro e1
        subst e1
        have h1 := hc 0 (List.length_pos_iff.2 h0) 0 hk
        rw [not_cell hm, Array.getElem?_eq_getElem (by rw [hf]; exact hk)] at h1
        cases h1
      exact .inr ⟨b, o, e, Nat.lt_of_lt_of_le hlt K.size, fun i hi j hj => (World.cell?_of_block (w := w) (a := ⟨b, o + i * k + j, none⟩) (K.block b hlt (by simpa using hne))).trans (hc i hi j hj)⟩
theorem RT1.ke {w w' : World} {x : Tv} {mb : Nat} {es : Array MapEntry} {ck : Nat} (h : RT1 w x) (K : Ke [mb] w w') (hm : w.heap[mb]? = some (.map es ck)) : RT1 w' x :=
  ⟨Rw.ke (by decide) (fun _ => rfl) h.n K hm, Rw.ke (by decide) (fun _ => rfl) h.k K hm, h.fn, h.fk, h.lt, h.sz, h.szk⟩
theorem RT.ke {w w' : World} {A : Option Addr} {l : List Tv} {mb : Nat} {es : Array MapEntry} {ck : Nat} (h : RT w A l) (K : Ke [mb] w w') (hm : w.heap[mb]? = some (.map es ck)) : RT w' A l :=
  ⟨Rw.ke (by decide) (fun _ => rfl) h.r K hm, fun x hx => (h.each x hx).ke K hm⟩
theorem RC.ke {w w' : World} {x : Cv} {mb : Nat} {es : Array MapEntry} {ck : Nat} (h : RC w x) (K : Ke [mb] w w') (hm : w.heap[mb]? = some (.map es ck)) : RC w' x := ⟨h.r.ke K hm, h.f⟩
theorem Bk.keM {w w' : World} {g : Nat} {t : TypeId} {cs : Array Value} {mb : Nat} {es : Array MapEntry} {ck : Nat} (h : Bk w g t cs) (K : Ke [mb] w w') (hm : w.heap[mb]? = some (.map es ck)) : Bk w' g t cs := by
  refine h.ke K ?_
  simp only [List.mem_singleton]
  intro e
  subst e
  have h1 : w.heap[g]? = some (.cells cs t) := h
  rw [hm] at h1
  cases h1
end Go.Proofs.YtekobdmlgbffnaaGreatDoor

/- Rows of structs that are whole; what stays when a row has grown. -/
namespace Go.Proofs.YtekobdmlgbffnaaGreatDoor
set_option linter.unusedVariables false
set_option maxRecDepth 100000
set_option linter.unusedSimpArgs false
open Go.RowKit

theorem Bk.ty {w : World} {g g' : Nat} {t t' : TypeId} {cs cs' : Array Value} (h : Bk w g t cs) (h' : Bk w g' t' cs') (ht : t ≠ t') : g ≠ g' := by
  rintro rfl
  have := h.symm.trans h'
  injection this with this
  injection this with _ h2 _
  exact ht h2


/-- Rows that are whole, below E. -/
def Ry {β : Type} (k : Nat) (f : β → Array Value) (t : TypeId) (u : World) (E : Nat) (A : Option Addr) (l : List β) : Prop :=
  l = [] ∨ ∃ g cs, A = some ⟨g, 0, none⟩ ∧ g < E ∧ Bk u g t cs ∧ ∀ i, (h : i < l.length) → ∀ j, j < k → cs[i * k + j]? = (f l[i])[j]?
theorem Ry.rw_ {β : Type} {k : Nat} {f : β → Array Value} {t : TypeId} {u : World} {E : Nat} {A : Option Addr} {l : List β} (h : Ry k f t u E A l) : Rw k f u A l := by
  rcases h with h | ⟨g, cs, e, _, hb, hc⟩
  · exact .inl h
  · exact .inr ⟨g, 0, e, hb.lt, fun i hi j hj => by rw [hb.cell, Nat.zero_add]; exact hc i hi j hj⟩
theorem Ry.keep {β : Type} {k : Nat} {f : β → Array Value} {t : TypeId} {u u' : World} {E E' : Nat} {A : Option Addr} {l : List β} (h : Ry k f t u E A l) (hE : E ≤ E') (hk : ∀ g cs, g < E → Bk u g t cs → Bk u' g t cs) : Ry k f t u' E' A l := by
  rcases h with h | ⟨g, cs, e, hl, hb, hc⟩
  · exact .inl h
  · exact .inr ⟨g, cs, e, by omega, hk g cs hl hb, hc⟩
theorem Ow.ry {β : Type} {k : Nat} {f : β → Array Value} {e : TypeId} {u : World} {B : Nat} {A : Option Addr} {c : Nat} {l : List β} (hf : ∀ x, (f x).size = k) (h : Ow e k f u B A c l) : Ry k f e u u.heap.size A l := by
  by_cases h0 : l = []
  · exact .inl h0
  · have hp : 0 < l.length := List.length_pos_iff.2 h0
    obtain ⟨g, cap, hv, hb, hl⟩ := World.ownsRow.form h hp
    injection hv with h1 _ _
    subst h1
    obtain ⟨_, _, cs, hbk⟩ := h.block 0 g rfl
    refine .inr ⟨g, cs, rfl, hl, hbk, fun i hi j hj => ?_⟩
    have hlt : i * k + j < l.length * k := by
      have h2 : (i + 1) * k ≤ l.length * k := Nat.mul_le_mul_right k (by omega)
      rw [Nat.add_mul, Nat.one_mul] at h2
      omega
    have e1 := World.ownsRow.cellAt h (i * k + j) hlt
    rw [hbk.cell] at e1
    rw [e1, fl_at hf l i hi j hj]

theorem kcs_size : ∀ x : Tk, (kcs x).size = 3 := fun _ => rfl
theorem tcs_size : ∀ x : Tv, (tcs x).size = 5 := fun _ => rfl
structure Fz (u : World) (E : Nat) (y : Tv) : Prop where
  n : Ry 2 ncs 85 u E y.An y.t.nets
  k : Ry 3 kcs 37 u E y.Ak y.t.toks
  fn : Fit y.An y.t.nets.length y.cn
  fk : Fit y.Ak y.t.toks.length y.ck
structure Lz (u : World) (E : Nat) (y : Tv) : Prop where
  n : ON u E y.An y.cn y.t.nets
  k : OK u E y.Ak y.ck y.t.toks
structure Sm (y : Tv) : Prop where
  lt : ∀ n ∈ y.t.nets, n.addr < 4294967296
  sz : y.t.name.size ≤ 140737488355328
  szk : ∀ k ∈ y.t.toks, k.name.size ≤ 140737488355328 ∧ k.sec.size ≤ 140737488355328

/-- Blocks of other types stay when a row has grown. -/
theorem grown_ty {β : Type} {u u' : World} {B' : Nat} {e t : TypeId} {k n c : Nat} {f : β → Array Value} {A : Option Addr} {l : List β} (hg : u.grownBy u' (Value.slice A n c).ownBlock) (ho : Ow e k f u B' A c l) {g : Nat} {cs : Array Value} (hb : Bk u g t cs) (h : t ≠ e ∨ g < B') : Bk u' g t cs := by
  refine (hg.block g hb.lt (fun e' => ?_)).trans hb
  obtain ⟨h1, _, cs', h2⟩ := ho.block n g e'.symm
  rcases h with h | h
  · exact hb.ty h2 h rfl
  · omega

end Go.Proofs.YtekobdmlgbffnaaGreatDoor

/- Regions that draw their order, and whose last operation (all others wait to be ahead of it) writes what earlier ones read: the condition on worlds need not hold behind that one. The law's proof goes the way of the kit's own one (Derived/OrdersHeld), with a chain of operations more. Nothing of the program is named here. -/
namespace Go.Proofs.YtekobdmlgbffnaaGreatDoor
set_option linter.unusedVariables false
set_option maxRecDepth 100000
set_option linter.unusedSimpArgs false

section
variable {P : Program} {ops : Array Oper} {Q : Exit → Act → World → Prop} {md : Region.Mode} {S : World → Prop} {z : Nat}

def wpAnyL (P : Program) (md : Region.Mode) (ops : Array Oper) (Q : Exit → Act → World → Prop) (S : World → Prop) (z : Nat) : Nat → Array Bool → Act → World → Prop
  | 0, listed, a, w => Region.ready md ops listed = [] ∧ Q .normal a w
  | fuel + 1, listed, a, w =>
    (Region.ready md ops listed = [] → Q .normal a w) ∧
    ∀ i ∈ Region.ready md ops listed, wpOp P ops Q i (fun a' w' => (i ≠ z → S w') ∧ wpAnyL P md ops Q S z fuel (listed.setIfInBounds i true) a' w') a w

theorem wpAny_of_L : ∀ (fuel : Nat) (listed : Array Bool) (a : Act) (w : World), wpAnyL P md ops Q S z fuel listed a w → wpAny P md ops Q fuel listed a w
  | 0, _, _, _, h => h
  | fuel + 1, _, _, _, h => ⟨h.1, fun i hi => wpOp_mono (fun a' w' h' => wpAny_of_L fuel _ a' w' h'.2) (h.2 i hi)⟩

/-- Number z waits for i, by a chain of operations none of which has come up. -/
def chainB (md : Region.Mode) (ops : Array Oper) (listed : Array Bool) (i z : Nat) (cs : List Nat) : Bool :=
  cs.contains z && cs.all fun c => !(listed.getD c true) && (match ops[c]? with
    | some o => o.after.any fun e => Region.binds md e && (e.on == i || cs.contains e.on)
    | none => false)
structure Chain (md : Region.Mode) (ops : Array Oper) (listed : Array Bool) (i z : Nat) (cs : List Nat) : Prop where
  z : z ∈ cs
  un : ∀ c ∈ cs, listed.getD c true = false
  on : ∀ c ∈ cs, ∃ o, ops[c]? = some o ∧ ∃ e ∈ o.after, Region.binds md e = true ∧ (e.on = i ∨ e.on ∈ cs)
theorem Chain.of {listed : Array Bool} {i : Nat} {cs : List Nat} (h : chainB md ops listed i z cs = true) : Chain md ops listed i z cs := by
  unfold chainB at h
  rw [Bool.and_eq_true, List.all_eq_true] at h
  refine ⟨by simpa using h.1, fun c hc => ?_, fun c hc => ?_⟩
  · have := h.2 c hc
    rw [Bool.and_eq_true] at this
    simpa using this.1
  · have := h.2 c hc
    rw [Bool.and_eq_true] at this
    cases ho : ops[c]? with
    | none => rw [ho] at this; exact absurd this.2 (by simp)
    | some o =>
      rw [ho] at this
      have h3 := this.2
      dsimp only at h3
      rw [← Array.any_toList, List.any_eq_true] at h3
      obtain ⟨e, he, h2⟩ := h3
      have he : e ∈ o.after := by simpa using he
      rw [Bool.and_eq_true, Bool.or_eq_true] at h2
      exact ⟨o, rfl, e, he, h2.1, by simpa using h2.2⟩
theorem not_both {listed : Array Bool} {k : Nat} (h0 : listed.getD k true = false) (h1 : listed.getD k false = true) : False := by
  rcases Nat.lt_or_ge k listed.size with h' | h'
  · simp [h'] at h0 h1; rw [h0] at h1; cases h1
  · simp [Array.getElem?_eq_none h'] at h1
theorem Chain.not_ready {listed : Array Bool} {i j : Nat} {cs : List Nat} (h : Chain md ops listed i z cs) (hi : i ∈ Region.ready md ops listed) (hj : j ∈ Region.ready md ops listed) : j ∉ cs := fun hc => by
  obtain ⟨o, ho, e, he, hb, hon⟩ := h.on j hc
  obtain ⟨_, o', ho', hall⟩ := mem_ready.1 hj
  rw [ho] at ho'
  injection ho' with ho'
  subst ho'
  have h1 := hall e he hb
  rcases hon with hon | hon
  · rw [hon] at h1; exact not_both (mem_ready.1 hi).1 h1
  · exact not_both (h.un _ hon) h1
theorem Chain.next {listed : Array Bool} {i j : Nat} {cs : List Nat} (h : Chain md ops listed i z cs) (hj : j ∉ cs) : Chain md ops (listed.setIfInBounds j true) i z cs :=
  ⟨h.z, fun c hc => by rw [getD_set_ne true (fun e : j = c => hj (by rw [e]; exact hc))]; exact h.un c hc, h.on⟩

theorem wpAnyL_first {i : Nat} {oi : Oper} {v : Value} {cs : List Nat} (hi : ops[i]? = some oi) (hsel : ∀ (j : Nat) (o : Oper) cs b, ops[j]? = some o → o.op ≠ .select cs b)
    (hQ : ∀ c a w, Q (.panic c) (a.put oi.dst v) w → Q (.panic c) a w) :
    ∀ (fuel : Nat) (listed : Array Bool) (a : Act) (w : World),
      (∀ j oj, ops[j]? = some oj → j ≠ i → listed.getD j true = false → (∀ e ∈ oj.after, Region.binds md e = true → e.on ≠ i) → oi.apart ops oj = true) →
      i ∈ Region.ready md ops listed → Chain md ops listed i z cs → YieldsIf P ops S oi v a → S w →
      wpAnyL P md ops Q S z fuel (listed.setIfInBounds i true) (a.put oi.dst v) w → wpAnyL P md ops Q S z (fuel + 1) listed a w := by
  intro fuel
  induction fuel with
  | zero =>
    intro listed a w _ hr _ hy hS H
    refine ⟨fun h => (by rw [h] at hr; cases hr), fun j hj => ?_⟩
    by_cases hji : j = i
    · subst hji; exact hy.wpOp hi hS ⟨fun _ => hS, H⟩
    · have := ready_mono hj hji
      rw [H.1] at this
      cases this
  | succ fuel ih =>
    intro listed a w hfree hr hC hy hS H
    refine ⟨fun h => (by rw [h] at hr; cases hr), fun j hj => ?_⟩
    by_cases hji : j = i
    · subst hji; exact hy.wpOp hi hS ⟨fun _ => hS, H⟩
    · have h1 := H.2 j (ready_mono hj hji)
      obtain ⟨hjun, oj, hoj, hall⟩ := mem_ready.1 hj
      have hjc := hC.not_ready hr hj
      have hjz : j ≠ z := fun e => hjc (e ▸ hC.z)
      have hnot : ∀ e ∈ oj.after, Region.binds md e = true → e.on ≠ i := fun e he hb heq => by
        have h1 := hall e he hb
        rw [heq] at h1
        exact not_both (mem_ready.1 hr).1 h1
      have h2 := wpOp_putIf hoj (hfree j oj hoj hji hjun hnot) (fun cs b => hsel i oi cs b hi) (fun cs b => hsel j oj cs b hoj) hQ hy h1
      have hfree' : ∀ k ok, ops[k]? = some ok → k ≠ i → (listed.setIfInBounds j true).getD k true = false →
          (∀ e ∈ ok.after, Region.binds md e = true → e.on ≠ i) → oi.apart ops ok = true := fun k ok hk hki hun hno => by
        refine hfree k ok hk hki ?_ hno
        by_cases hjk : j = k
        · subst hjk; exact hjun
        · rw [getD_set_ne true hjk] at hun; exact hun
      refine wpOp_mono (fun a' w' h3 => ⟨h3.2.1, ih (listed.setIfInBounds j true) a' w' hfree' (ready_mono hr (Ne.symm hji)) (hC.next hjc) h3.1 (h3.2.1 hjz) ?_⟩) h2
      rw [Array.setIfInBounds_comm _ _ hji]
      exact h3.2.2

theorem takeL {i : Nat} (d : Option Tmp) (cs : List Nat) {oi : Oper} {v : Value} {fuel : Nat} {listed : Array Bool} {a : Act} {w : World} (hi : ops[i]? = some oi)
    (hd : oi.dst = d) (hs : Region.noSelect ops = true) (hf : Region.free md ops listed i = true) (hr : (Region.ready md ops listed).contains i = true) (hc : chainB md ops listed i z cs = true)
    (hQ : ∀ c a w, Q (.panic c) (a.put oi.dst v) w → Q (.panic c) a w) (hy : YieldsIf P ops S oi v a) (hS : S w)
    (h : wpAnyL P md ops Q S z fuel (listed.setIfInBounds i true) (a.put d v) w) : wpAnyL P md ops Q S z (fuel + 1) listed a w := by
  subst hd
  exact wpAnyL_first hi (Region.noSelect_spec hs) hQ fuel listed a w (Region.free_spec hi hf) (by simpa using hr) (Chain.of hc) hy hS h

def AllReadyL (P : Program) (md : Region.Mode) (ops : Array Oper) (Q : Exit → Act → World → Prop) (S : World → Prop) (z fuel : Nat) (listed : Array Bool) (a : Act) (w : World) (rs : List Nat) : Prop :=
  ∀ i ∈ rs, wpOp P ops Q i (fun a' w' => (i ≠ z → S w') ∧ wpAnyL P md ops Q S z fuel (listed.setIfInBounds i true) a' w') a w
theorem AllReadyL.nil {fuel : Nat} {listed : Array Bool} {a : Act} {w : World} : AllReadyL P md ops Q S z fuel listed a w [] := fun _ h => by cases h
theorem AllReadyL.cons {fuel : Nat} {listed : Array Bool} {a : Act} {w : World} {i : Nat} {o : Oper} {rs : List Nat} (ho : ops[i]? = some o)
    (h : ∀ K' : Act → World → Prop, Shut (∀ a w, S w → (S w → wpAnyL P md ops Q S z fuel (listed.setIfInBounds i true) a w) → K' a w) → if Region.wanted o (yielded ops a.tmps) = true then Oper.wp P o a w K' Q else K' (a.put o.dst undef) w)
    (hs : AllReadyL P md ops Q S z fuel listed a w rs) : AllReadyL P md ops Q S z fuel listed a w (i :: rs) := fun j hj => by
  rcases List.mem_cons.1 hj with rfl | hj
  · exact wpOp_step ho (fun K' hK => h K' (fun a w hS hW => hK a w ⟨fun _ => hS, hW hS⟩))
  · exact hs j hj
/-- The last one: nothing is to be shown behind it. -/
theorem AllReadyL.last {fuel : Nat} {listed : Array Bool} {a : Act} {w : World} {o : Oper} (ho : ops[z]? = some o)
    (h : ∀ K' : Act → World → Prop, Shut (∀ a w, wpAnyL P md ops Q S z fuel (listed.setIfInBounds z true) a w → K' a w) → if Region.wanted o (yielded ops a.tmps) = true then Oper.wp P o a w K' Q else K' (a.put o.dst undef) w) : AllReadyL P md ops Q S z fuel listed a w [z] := fun j hj => by
  rcases List.mem_cons.1 hj with rfl | hj
  · exact wpOp_step ho (fun K' hK => h K' (fun a w hW => hK a w ⟨fun e => absurd rfl e, hW⟩))
  · cases hj
theorem wpAnyL_ready {rs : List Nat} {fuel : Nat} {listed : Array Bool} {a : Act} {w : World} (hr : Region.ready md ops listed = rs) (hne : rs ≠ [])
    (h : AllReadyL P md ops Q S z fuel listed a w rs) : wpAnyL P md ops Q S z (fuel + 1) listed a w := ⟨fun h0 => absurd (hr ▸ h0) hne, hr ▸ h⟩
theorem wpAnyL_done {listed : Array Bool} {a : Act} {w : World} (hr : Region.ready md ops listed = []) (h : Q .normal a w) :
    ∀ fuel, wpAnyL P md ops Q S z fuel listed a w
  | 0 => ⟨hr, h⟩
  | _ + 1 => ⟨fun _ => h, by rw [hr]; simp⟩
theorem wp_region_L (z : Nat) {id : Nat} {a : Act} {w : World} (hm : P.follows .mixedOrders = true) (hS : S w.drew)
    (h : S w.drew → wpAnyL P .any ops Q S z ops.size (Array.replicate ops.size false) a w.drew) : (Code.region id ops true).wp P Q a w :=
  wp_region_any hm (wpAny_of_L _ _ _ _ (h hS))
end
end Go.Proofs.YtekobdmlgbffnaaGreatDoor
