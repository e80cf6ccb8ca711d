/- Tk1, Same: texts of this seat, one behind the other. -/
import Derived.Test.YtinbegnojfpeiaaDoorG1
import Derived.Test.YtinbegnojfpeiaaDoorG6
import Derived.Test.YtinbegnojfpeiaaDoorG8
import Derived.Test.YtinbegnojfpeiaaDoorG5
import Derived.Test.YtinbegnojfpeiaaDoorG2
import Derived.Deep.QuietTactic
import Derived.BigQuiet
/- The program's own book of tickets: its memory. -/
namespace Go.Proofs.YtinbegnojfpeiaaDoor
set_option linter.unusedVariables false
set_option maxRecDepth 100000
set_option linter.unusedSimpArgs false
open Go.RowKit

/-- A good ticket, as it lies: its text is a block of its own. -/
structure Tq where
  p : Ps
  tx : ByteArray
  g : Nat
  c : Nat
def Tq.k (x : Tq) : Tk5 := ⟨x.tx, x.p⟩
abbrev tqc (x : Tq) : Array Value := #[.int .i64 x.p.vis, .string x.p.nm, .string x.p.ten, .int .i64 x.p.ep, .slice (some ⟨x.g, 0, none⟩) x.tx.size x.c]
theorem roI5 : Ro Tryd.prog 54 59 5 72 tqc := ⟨Tryd.underlying54, (by
  obtain ⟨i, h1, h2, h3, h4⟩ := info_parts (show (Tryd.prog.info? 59).map (fun i => (i.zero, i.size, i.bytes)) = some (some (.agg #[.int .i64 0, .string ByteArray.empty, .string ByteArray.empty, .int .i64 0, .slice none 0 0]), 5, 72) by kernel_rfl)
  exact ⟨i, _, h1, h2, h3, h4, rfl⟩), by omega, fun _ => rfl, (fun x u hu => by simp at hu; rcases hu with rfl | rfl | rfl | rfl | rfl <;> rfl), by omega⟩
/-- The bytes of s lie at g, in a block of bytes. -/
def Tb (u : World) (g : Nat) (s : ByteArray) : Prop := ∃ cs fr, u.heap[g]? = some (.cells cs 5 fr) ∧ ∀ i, (h : i < s.data.toList.length) → cs[i]? = some (.int .u8 ((s.data.toList[i]).toNat : Int))
theorem Tb.lt {u : World} {g : Nat} {s : ByteArray} (h : Tb u g s) : g < u.heap.size := by
  obtain ⟨cs, fr, h1, _⟩ := h
  exact lt_of_block h1
theorem Tb.rb {u : World} {g : Nat} {s : ByteArray} (h : Tb u g s) : Rb u u.heap.size (some ⟨g, 0, none⟩) s.data.toList := by
  obtain ⟨cs, fr, h1, h2⟩ := h
  exact .inr ⟨g, 0, rfl, lt_of_block h1, fun i hi => by rw [cell_of_row u g (0 + i) cs _ fr h1, Nat.zero_add, h2 i hi]⟩
theorem Tb.ke {L : List Nat} {u u' : World} {g : Nat} {s : ByteArray} (h : Tb u g s) (k : Ke L u u') (hg : g ∉ L) : Tb u' g s := by
  obtain ⟨cs, fr, h1, h2⟩ := h
  exact ⟨cs, fr, (k.block g (lt_of_block h1) hg).trans h1, h2⟩
theorem Tb.on {u u' : World} {g : Nat} {s : ByteArray} (h : Tb u g s) (hb : Below u.heap.size u u') : Tb u' g s := h.ke (Ke.of hb) (by simp)
theorem bk_dist {u : World} {g g' : Nat} {t t' : TypeId} {cs cs' : Array Value} {fr fr' : Nat × Nat} (h : u.heap[g]? = some (.cells cs t fr)) (h' : u.heap[g']? = some (.cells cs' t' fr')) (ht : t ≠ t') : g ≠ g' := by
  intro e
  subst e
  rw [h'] at h
  injection h with h1
  injection h1 with _ h1
  exact ht h1.symm
theorem Tb.ne {u : World} {g g' : Nat} {s : ByteArray} {t' : TypeId} {cs' : Array Value} (h : Tb u g s) (h' : Bk u g' t' cs') (ht : 5 ≠ t') : g ≠ g' := by
  obtain ⟨cs, fr, h1, _⟩ := h
  exact bk_dist h1 h' ht
/-- A text as bytes anew: the block. -/
theorem conv_tb (B : ByteArray) (hB : B.size ≤ 140737488355328) (w : World) : ∃ (cap : Nat) (ob : Obj), (convert 9 50 (.string B)).run Tryd.prog w = .ok (.slice (some ⟨w.heap.size, 0, none⟩) B.size cap) (w.drew.alloc ob) ∧ B.size ≤ cap ∧ cap ≤ 9223372036854775807 ∧ Tb (w.drew.alloc ob) w.heap.size B := by
  refine ⟨_, _, run_bytes_of_string w 9 50 5 B Tryd.underlying9 Tryd.underlying50 Tryd.underlying5, grownCap_ge _ _ _ _, ?_, ?_⟩
  · have h := grownCap_le_maxLen w B.size 0 5 (by unfold maxLen; omega)
    unfold maxLen at h
    omega
  · refine ⟨_, _, heap_alloc_new w.drew _, fun i hi => ?_⟩
    have hi' : i < B.data.size := by simpa using hi
    rw [bytesRow_at B _ i hi']
    rfl

/-- At tb lies a book with those rows, in the blocks H; B: what is its own lies behind B. -/
structure Tm (u : World) (H : List Nat) (B tb : Nat) (key : ByteArray) (se : Int) (l : List Tq) (A : Option Addr) (c kb kc : Nat) : Prop where
  blk : Bk u tb 56 #[.slice (some ⟨kb, 0, none⟩) key.size kc, .int .i64 se, .slice A l.length c]
  ow : Ow 59 5 tqc u B A c l
  own : ∀ g, (Value.slice A l.length c).ownBlock = some g → g ∈ H
  tx : ∀ x ∈ l, Tb u x.g x.tx ∧ x.g ∈ H ∧ x.tx.size ≤ 1099511627776
  ky : Tb u kb key
  kh : kb ∈ H
  k1 : key.size ≤ kc
  k2 : kc ≤ 9223372036854775807
  tb : tb ∈ H
section
variable {W u u' : World} {H H' : List Nat} {B tb : Nat} {key : ByteArray} {se : Int} {l : List Tq} {A : Option Addr} {c kb kc : Nat} {b b' : Bt}
theorem Tm.ke {L : List Nat} (h : Tm u H B tb key se l A c kb kc) (k : Ke L u u') (hL : ∀ y ∈ H, y ∉ L) : Tm u' H B tb key se l A c kb kc := by
  refine ⟨h.blk.ke k (hL _ h.tb), ⟨h.ow.1, ?_⟩, h.own, fun x hx => ⟨(h.tx x hx).1.ke k (hL _ (h.tx x hx).2.1), (h.tx x hx).2⟩, h.ky.ke k (hL _ h.kh), h.kh, h.k1, h.k2, h.tb⟩
  rcases h.ow.2 with hn | ⟨g, cap, cur, hv, hg, hh, r⟩
  · exact .inl hn
  · exact .inr ⟨g, cap, cur, hv, hg, (show Bk u g _ _ from hh).ke k (hL g (h.own g (by rw [hv]; rfl))), r⟩
theorem Tm.on (h : Tm u H B tb key se l A c kb kc) (hb : Below u.heap.size u u') : Tm u' H B tb key se l A c kb kc := h.ke (Ke.of hb) (fun _ _ hx => by cases hx)
/-- At tb lies the program's book. -/
structure Tz (W u : World) (H : List Nat) (tb : Nat) (key : ByteArray) (b : Bt) : Prop where
  ex : ∃ l A c kb kc, Tm u H W.heap.size tb key b.se l A c kb kc ∧ l.map Tq.k = b.l
  l : Below W.heap.size W u
  lo : ∀ y ∈ H, W.heap.size ≤ y
  hi : ∀ y ∈ H, y < u.heap.size
theorem Tz.ke {L : List Nat} (h : Tz W u H tb key b) (k : Ke L u u') (hL : ∀ y ∈ H, y ∉ L) (hb : Below W.heap.size W u') : Tz W u' H tb key b := by
  obtain ⟨l, A, c, kb, kc, h1, h2⟩ := h.ex
  exact ⟨⟨l, A, c, kb, kc, h1.ke k hL, h2⟩, hb, h.lo, fun y hy => Nat.lt_of_lt_of_le (h.hi y hy) k.size⟩
theorem Tz.on (h : Tz W u H tb key b) (hb : Below u.heap.size u u') : Tz W u' H tb key b := h.ke (Ke.of hb) (fun _ _ hx => by cases hx) (h.l.trans (hb.mono h.l.size))
/-- One good ticket. -/
theorem rowI {w : World} {A : Option Addr} {l : List Tq} (h : Rw 5 tqc w A l) (i : Nat) (hi : i < l.length) :
    ∃ b o x, A = some ⟨b, o, none⟩ ∧ l[i]? = some x ∧ ∀ u, Below w.heap.size w u → u.cell? ⟨b, o + i * 5, none⟩ = some (.int .i64 x.p.vis) ∧ u.cell? ⟨b, o + i * 5 + 1, none⟩ = some (.string x.p.nm) ∧ u.cell? ⟨b, o + i * 5 + 2, none⟩ = some (.string x.p.ten) ∧ u.cell? ⟨b, o + i * 5 + 3, none⟩ = some (.int .i64 x.p.ep) ∧ u.cell? ⟨b, o + i * 5 + 4, none⟩ = some (.slice (some ⟨x.g, 0, none⟩) x.tx.size x.c) := by
  obtain ⟨b, o, x, h1, h2, h3⟩ := Rw.at_ h i hi
  exact ⟨b, o, x, h1, h2, fun u hb => ⟨h3 u hb 0 (by omega), h3 u hb 1 (by omega), h3 u hb 2 (by omega), h3 u hb 3 (by omega), h3 u hb 4 (by omega)⟩⟩
end
/-- Where the first one stands that fits; -1: nowhere. -/
def ixI (p : Tk5 → Bool) (l : List Tk5) : Int := match l.findIdx? p with | some i => (i : Int) | none => -1
theorem ix_no {p : Tk5 → Bool} {l : List Tk5} (h : ∀ y ∈ l, p y = false) : ixI p l = -1 := by
  unfold ixI
  rw [List.findIdx?_eq_none_iff.2 h]
theorem ix_at {p : Tk5 → Bool} : ∀ {l : List Tk5} {i : Nat} {x : Tk5}, l[i]? = some x → (∀ y ∈ l.take i, p y = false) → p x = true → ixI p l = (i : Int)
  | l, i, x, h, h0, hx => by
    unfold ixI
    have : l.findIdx? p = some i := by
      rw [List.findIdx?_eq_some_iff_getElem]
      obtain ⟨hi, e⟩ := List.getElem?_eq_some_iff.1 h
      refine ⟨hi, by rw [e]; exact hx, fun j hj => ?_⟩
      rw [h0 _ (List.mem_take_iff_getElem.2 ⟨j, by omega, rfl⟩)]
      simp
    rw [this]
/-- Where it stands, or nowhere. -/
theorem ix_cases (p : Tk5 → Bool) (l : List Tk5) : ((∀ y ∈ l, p y = false) ∧ ixI p l = -1) ∨ ∃ i x, l[i]? = some x ∧ (∀ y ∈ l.take i, p y = false) ∧ p x = true ∧ ixI p l = (i : Int) := by
  cases hf : l.findIdx? p with
  | none =>
    have := List.findIdx?_eq_none_iff.1 hf
    exact .inl ⟨this, ix_no this⟩
  | some i =>
    obtain ⟨hi, h1, h2⟩ := List.findIdx?_eq_some_iff_getElem.1 hf
    have h0 : ∀ y ∈ l.take i, p y = false := fun y hy => by
      obtain ⟨j, hj, rfl⟩ := List.mem_take_iff_getElem.1 hy
      simpa using h2 j (by omega)
    exact .inr ⟨i, l[i], List.getElem?_eq_getElem hi, h0, h1, ix_at (List.getElem?_eq_getElem hi) h0 h1⟩
end Go.Proofs.YtinbegnojfpeiaaDoor

/- mac.Same: rows that are alike. -/
namespace Go.Proofs.YtinbegnojfpeiaaDoor
set_option linter.unusedVariables false
set_option maxRecDepth 100000
set_option linter.unusedSimpArgs false
open Go.RowKit

theorem Rb.at_ {w : World} {B : Nat} {A : Option Addr} {l : List UInt8} (h : Rb w B A l) (h0 : 0 < l.length) : ∃ b o, A = some ⟨b, o, none⟩ ∧ b < B ∧ ∀ i, i < l.length → w.cell? ⟨b, o + i, none⟩ = some (.int .u8 ((l.getD i 0).toNat : Int)) := by
  rcases h with h | ⟨b, o, e, hb, hc⟩
  · subst h; simp at h0
  · refine ⟨b, o, e, hb, fun i hi => ?_⟩
    rw [hc i hi, List.getD, List.getElem?_eq_getElem hi]; rfl
theorem ext_getD (a b : List UInt8) (n : Nat) (h1 : a.length = n) (h2 : b.length = n) : a = b ↔ ∀ j, j < n → a.getD j 0 = b.getD j 0 := by
  constructor
  · intro h j _; rw [h]
  · intro h
    apply List.ext_getElem (by omega)
    intro j hj1 hj2
    have := h j (by omega)
    rw [List.getD, List.getD, List.getElem?_eq_getElem hj1, List.getElem?_eq_getElem hj2] at this
    exact this
/-- Up to here no byte is other. -/
def Alike (l l' : List UInt8) (i : Nat) (x : UInt8) : Prop := x = 0 ↔ ∀ j, j < i → l.getD j 0 = l'.getD j 0
theorem Alike.zero (l l' : List UInt8) : Alike l l' 0 0 := ⟨fun _ j hj => by omega, fun _ => rfl⟩
theorem Alike.next {l l' : List UInt8} {i : Nat} {x : UInt8} (h : Alike l l' i x) : Alike l l' (i + 1) (x ||| (l.getD i 0 ^^^ l'.getD i 0)) := by
  unfold Alike at h ⊢
  rw [or_zero, xor_zero, h]
  constructor
  · rintro ⟨h1, h2⟩ j hj
    by_cases hji : j = i
    · rw [hji]; exact h2
    · exact h1 j (by omega)
  · intro h1
    exact ⟨fun j hj => h1 j (by omega), h1 i (by omega)⟩

set_option maxHeartbeats 1000000 in
theorem same_q (A : Option Addr) (n c : Nat) (l : List UInt8) (A' : Option Addr) (n' c' : Nat) (l' : List UInt8) (v : Bool) (w : World) (hl : l.length = n) (hl' : l'.length = n') (hn : n ≤ 1099511627776) (hn' : n' ≤ 1099511627776)
    (hR : Rb w w.heap.size A l) (hR' : Rb w w.heap.size A' l') (hv : decide (l = l') = v) :
    Calls Tryd.prog 34 #[.slice A n c, .slice A' n' c'] w fun e w' => e = .returned (.bool v) ∧ ∃ m, w' = w.drewN m := by
  by_cases hne : n = n'
  · subst hne
    have HL := Lib.hid hl
    have HL' := Lib.hid hl'
    have HR := Lib.hid hR
    have HR' := Lib.hid hR'
    have HV := Lib.hid hv
    clear hl hl' hR hR' hv
    have hX : ∀ x y : UInt8, bits .xor .u8 (x.toNat : Int) (y.toNat : Int) = ((x ^^^ y).toNat : Int) := b_xor
    have hO : ∀ x y : UInt8, bits .or .u8 (x.toNat : Int) (y.toNat : Int) = ((x ||| y).toNat : Int) := b_or
    go_enter Tryd.func34, Tryd.ntmps34
    go_wp2_with fail
    go_loopw [14, 5] (fun v14 v5 wr => ∃ (i : Nat) (x : UInt8), i ≤ n ∧ v14 = .int .i64 i ∧ v5 = .int .u8 (x.toNat : Int) ∧ Hid (Alike l l' i x) ∧ ∃ k, wr = w.drewN k) (fun v14 _ _ => n - (intOf v14).toNat)
    case atStart => exact ⟨0, 0, by omega, rfl, rfl, Lib.hid (Alike.zero _ _), 0, rfl⟩
    case round =>
      obtain ⟨i, x, hi, rfl, rfl, HA, k, rfl⟩ := hrel
      by_cases hi1 : i < n
      · have hi2 : (i : Int) < (n : Int) := by omega
        obtain ⟨b, o, rfl, hb, hc0⟩ := HR.out.at_ (by rw [HL.out]; omega)
        obtain ⟨b', o', rfl, hb', hc0'⟩ := HR'.out.at_ (by rw [HL'.out]; omega)
        have hc : w.cell? ⟨b, o + i, none⟩ = some (.int .u8 ((l.getD i 0).toNat : Int)) := hc0 i (by rw [HL.out]; exact hi1)
        have hc' : w.cell? ⟨b', o' + i, none⟩ = some (.int .u8 ((l'.getD i 0).toNat : Int)) := hc0' i (by rw [HL'.out]; exact hi1)
        have HN := Lib.hid (HA.out.next)
        clear hc0 hc0' hb hb'
        obtain ⟨p, hp⟩ : ∃ p, p = l.getD i 0 := ⟨_, rfl⟩
        obtain ⟨q, hq⟩ : ∃ q, q = l'.getD i 0 := ⟨_, rfl⟩
        rw [← hp] at hc HN
        rw [← hq] at hc' HN
        clear hp hq
        go_wp2_with fail
        go_quiet (fail)
        go_wp2_with fail
        go_roundw
        case rel => exact ⟨i + 1, _, by omega, by go_num, (by rw [← b_or, UInt8.toNat_xor]), HN, _, rfl⟩
        case measure => simp [intOf]; omega
      · have hi2 : (n : Int) ≤ (i : Int) := by omega
        have hE : decide (x = 0) = v := by
          rw [← HV.out]
          have h1 := HA.out
          unfold Alike at h1
          have h2 := ext_getD l l' n HL.out HL'.out
          rw [decide_eq_decide, h1, h2]
          rw [show i = n by omega]
        by_cases hx : x = 0
        · subst hx
          obtain rfl : true = v := by rw [← hE]; rfl
          go_wp2_with fail
          go_ret
          exact ⟨rfl, _, rfl⟩
        · obtain rfl : false = v := by rw [← hE, decide_eq_false hx]
          have hx2 : ¬ (x.toNat = 0) := fun h => hx (UInt8.toNat_inj.1 h)
          have hx3 : ((x.toNat : Int) == 0) = false := by rw [beq_eq_false_iff_ne]; omega
          have hx4 : 0 < x.toNat := by omega
          clear hE hx hx2
          go_wp2_with fail
          go_ret
          exact ⟨rfl, _, rfl⟩
  · obtain rfl : false = v := by
      rw [← hv, decide_eq_false]
      intro h; rw [h] at hl; omega
    have hne2 : ((n : Int) == (n' : Int)) = false := by rw [beq_eq_false_iff_ne]; omega
    have hne3 : ((n : Int) != (n' : Int)) = true := by rw [bne_iff_ne]; omega
    clear hl hl' hR hR' hv hne
    go_enter Tryd.func34, Tryd.ntmps34
    go_wp2_with fail
    go_ret
    exact ⟨rfl, 0, rfl⟩
theorem same_ok (A : Option Addr) (n c : Nat) (l : List UInt8) (A' : Option Addr) (n' c' : Nat) (l' : List UInt8) (v : Bool) (w : World) (hl : l.length = n) (hl' : l'.length = n') (hn : n ≤ 1099511627776) (hn' : n' ≤ 1099511627776)
    (hR : Rb w w.heap.size A l) (hR' : Rb w w.heap.size A' l') (hv : decide (l = l') = v) :
    Calls Tryd.prog 34 #[.slice A n c, .slice A' n' c'] w fun e w' => e = .returned (.bool v) ∧ Below w.heap.size w w' :=
  (same_q A n c l A' n' c' l' v w hl hl' hn hn' hR hR' hv).mono fun e w' ⟨h, m, hm⟩ => by
    subst hm
    exact ⟨h, Below.drewN' (Below.refl _ _) _⟩
end Go.Proofs.YtinbegnojfpeiaaDoor
