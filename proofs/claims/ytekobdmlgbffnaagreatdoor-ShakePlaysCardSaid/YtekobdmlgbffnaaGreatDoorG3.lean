/- Info, Dig, Deci, Syn8, Bytes, StrOne, Syn9: texts of this seat, one behind the other. -/
import Derived.Test.YtekobdmlgbffnaaGreatDoorRows
import Derived.Test.YtekobdmlgbffnaaGreatDoorG1
import Derived.Test.YtekobdmlgbffnaaGreatDoorShelf
import Derived.Lib.AppendStr
import Derived.Laws.AppendOwnNone
import Derived.Lib.SlBytesConst
import Derived.Deep.AppendLies
import Derived.Test.YtekobdmlgbffnaaGreatDoorG2
/- A byte's type: its zero, its size. -/
namespace Go.Proofs.YtekobdmlgbffnaaGreatDoor
theorem bytesInfo : (Tryz.prog.info? 5).map (fun i => (i.zero, i.size, i.bytes)) = some (some (.int .u8 0), 1, 1) := by kernel_rfl
end Go.Proofs.YtekobdmlgbffnaaGreatDoor

/- num.digits: its contract. -/
namespace Go.Proofs.YtekobdmlgbffnaaGreatDoor
set_option linter.unusedVariables false
set_option maxRecDepth 100000
set_option linter.unusedSimpArgs false
open Go.RowKit


theorem d_nonneg (n b : Nat) : (0 : Int) ≤ (n : Int) / (b : Int) := Int.ediv_nonneg (by omega) (by omega)
theorem d_le (n b k : Nat) (h : n ≤ k) : (n : Int) / (b : Int) ≤ (k : Int) := by
  have : n / b ≤ k := Nat.le_trans (Nat.div_le_self _ _) h
  have e : (n : Int) / (b : Int) = ((n / b : Nat) : Int) := by simp
  rw [e]; omega
theorem d_set {b n m k q : Nat} (h : k < m) (hq : q = n / b ^ k) (hb : 1 ≤ b) (hb2 : b ≤ 128) :
    (dcells b n m k).setIfInBounds (m - 1 - k) (.int .u8 ((q : Int) % (b : Int) % 256)) = dcells b n m (k + 1) := by
  rw [← dcells_set b n m k h, ← hq]
  have h1 : q % b < b := Nat.mod_lt _ (by omega)
  have h2 : (q : Int) % (b : Int) % 256 = ((q % b : Nat) : Int) := by
    have e : (q : Int) % (b : Int) = ((q % b : Nat) : Int) := by simp
    rw [e]; omega
  rw [h2]
theorem m_le {b m : Nat} (hb : 2 ≤ b) (h : b ^ m ≤ 1099511627776) : m + 1 ≤ 41 := by
  have h1 : 2 ^ m ≤ b ^ m := Nat.pow_le_pow_left hb m
  have h2 : (2 : Nat) ^ m ≤ 2 ^ 40 := Nat.le_trans h1 (by simpa using h)
  have := (Nat.pow_le_pow_iff_right (by omega : 1 < 2)).1 h2
  omega

set_option maxHeartbeats 400000 in
theorem digits_ok (n b : Nat) (w : World) (h1 : n ≤ 1099511627776) (hb : 2 ≤ b) (hb2 : b ≤ 128) :
    Calls Tryz.prog 90 #[.int .i64 n, .int .i64 b] w fun e w' => ∃ L : Nat, 1 ≤ L ∧ L ≤ 41 ∧ n < b ^ L ∧ (L = 1 ∨ b ^ (L - 1) ≤ n) ∧
      e = .returned (.slice (some ⟨w.heap.size, 0, none⟩) L L) ∧ w' = w.alloc (.cells (dcells b n L L) 5) := by
  have hmk := fun (m : Nat) (hm : m ≤ 41) => mk_bytes (P := Tryz.prog) w 98 5 Tryz.underlying98 bytesInfo m (by omega) (dcells b n m 0) (dcells_none b n m)
  have d0 : (0 : Int) ≤ (n : Int) / (b : Int) := d_nonneg n b
  have d00 : (n : Int) / (b : Int) ≤ 1099511627776 := d_le n b _ h1
  go_enter Tryz.func90, Tryz.ntmps90
  go_wp2
  go_loop [5, 6] (fun v5 v6 => ∃ m r : Nat, 1 ≤ m ∧ m ≤ 41 ∧ (m = 1 ∨ b ^ (m - 1) ≤ n) ∧ v5 = .int .i64 m ∧ r ≤ 1099511627776 ∧ Hid (r = n / b ^ m) ∧ v6 = .int .i64 (r : Int)) (fun _ v6 => (intOf v6).toNat)
  case atStart => exact ⟨1, n / b, by omega, by omega, .inl rfl, rfl, Nat.le_trans (Nat.div_le_self _ _) h1, Lib.hid (by simp), by simp⟩
  case round =>
    obtain ⟨m, r, hm1, hm2, hm3, rfl, hr, Hr, rfl⟩ := hrel
    have d1 : (0 : Int) ≤ (r : Int) / (b : Int) := d_nonneg r b
    have d2 : (r : Int) / (b : Int) ≤ 1099511627776 := d_le r b _ hr
    by_cases hz : 0 < r
    · go_wp2
      go_round
      case rel =>
        have h40 : b ^ m ≤ n := by
          have := Hr.out; rw [this] at hz
          exact (Nat.div_pos_iff.1 hz).2
        exact ⟨m + 1, r / b, by omega, m_le hb (Nat.le_trans h40 h1), .inr h40, by go_num, Nat.le_trans (Nat.div_le_self _ _) hr, Lib.hid (by rw [Hr.out, Nat.div_div_eq_div_mul, Nat.pow_succ]), by simp⟩
      case measure =>
        simp [intOf]
        exact Nat.div_lt_self hz (by omega)
    · have hlt : Hid (n < b ^ m) := by
        have := Hr.out
        have h0 : n / b ^ m = 0 := by omega
        exact Lib.hid ((Nat.div_eq_zero_iff_lt (Nat.pow_pos (by omega))).1 h0)
      clear Hr
      go_wp2
      go_loopw [0, 28] (fun v0 v28 wr => ∃ k q : Nat, k ≤ m ∧ v28 = .int .i64 k ∧ q ≤ 1099511627776 ∧ Hid (q = n / b ^ k) ∧ v0 = .int .i64 (q : Int) ∧ wr = w.alloc (.cells (dcells b n m k) 5)) (fun _ v28 _ => m - (intOf v28).toNat)
      case atStart => exact ⟨0, n, by omega, rfl, h1, Lib.hid (by simp), rfl, rfl⟩
      case round =>
        obtain ⟨k, q, hk, rfl, hq, Hq, rfl, rfl⟩ := hrel
        clear d1 d2
        have d1 : (0 : Int) ≤ (q : Int) / (b : Int) := d_nonneg q b
        have d2 : (q : Int) / (b : Int) ≤ 1099511627776 := d_le q b _ hq
        by_cases hkm : k < m
        · have hcell : (dcells b n m k)[m - 1 - k]? = some (.int .u8 0) := by
            rw [dcells_at _ _ _ _ _ (by omega), if_neg (by omega)]
          go_wp2
          go_roundw
          case rel =>
            exact ⟨k + 1, q / b, by omega, by go_num, Nat.le_trans (Nat.div_le_self _ _) hq, Lib.hid (by rw [Hq.out, Nat.div_div_eq_div_mul, Nat.pow_succ]), by simp, by rw [d_set hkm Hq.out (by omega) hb2]⟩
          case measure => simp [intOf]; omega
        · have ekm : k = m := by omega
          subst ekm
          go_wp2
          go_ret
          exact ⟨k, hm1, hm2, hlt.out, hm3, rfl, rfl⟩

theorem dmark_set {a n b L k d : Nat} (h : k < L) (hd : d = n / b ^ (L - 1 - k) % b) : (pcells a n b L k).setIfInBounds k (.int .u8 ((d : Int) + (a : Int))) = pcells a n b L (k + 1) := by
  rw [← pcells_set a n b L k h, ← hd]; simp
theorem dmark_at {a n b L k d : Nat} (h : k < L) (hd : d = n / b ^ (L - 1 - k) % b) : (pcells a n b L k)[k]? = some (.int .u8 (d : Int)) := by
  rw [pcells_at _ _ _ _ _ _ h, if_neg (by omega), ← hd]

end Go.Proofs.YtekobdmlgbffnaaGreatDoor

/- num.Decimal: its contracts. -/
namespace Go.Proofs.YtekobdmlgbffnaaGreatDoor
set_option linter.unusedVariables false
set_option maxRecDepth 100000
set_option linter.unusedSimpArgs false
open Go.RowKit

set_option maxHeartbeats 400000 in
theorem dec_ok (n : Nat) (w : World) (h1 : n ≤ 1099511627776) :
    Calls Tryz.prog 50 #[.int .i64 n] w fun e w' => e = .returned (.string ⟨(decB n).toArray⟩) ∧ Below w.heap.size w w' := by
  go_enter Tryz.func50, Tryz.ntmps50
  go_wp2_with fail
  refine (digits_ok n 10 _ h1 (by omega) (by omega)).mono ?_
  rintro e w' ⟨L, hL1, hL2, hlt, hge, rfl, rfl⟩
  have hfin := Lib.hid (And.intro (pcells_dec n L hL1 hlt hge) (decB_length n L hL1 hlt hge))
  clear hlt hge
  go_wp2_with fail
  go_loopw [9] (fun v9 wr => ∃ k : Nat, k ≤ L ∧ v9 = .int .i64 k ∧ wr = w.alloc (.cells (pcells 48 n 10 L k) 5)) (fun v9 _ => L - (intOf v9).toNat)
  case atStart => exact ⟨0, by omega, rfl, by rw [pcells_zero]⟩
  case round =>
    obtain ⟨k, hk, rfl, rfl⟩ := hrel
    by_cases hkL : k < L
    · obtain ⟨d, hd⟩ : ∃ d, d = n / 10 ^ (L - 1 - k) % 10 := ⟨_, rfl⟩
      have hd2 : d < 10 := by rw [hd]; exact Nat.mod_lt _ (by omega)
      have hcell := dmark_at (a := 48) (b := 10) (n := n) (d := d) (by omega : k < L) hd
      have Hd := Lib.hid hd
      clear hd
      go_wp2
      go_roundw
      case rel => exact ⟨k + 1, by omega, by go_num, by rw [← dmark_set (by omega) Hd.out]; rfl⟩
      case measure => simp [intOf]; omega
    · have hk2 : k = L := by omega
      rw [hk2, hfin.out.1]
      clear hk2
      have hst := str_of (P := Tryz.prog) (Rb.new w 5 (decB n)) 98 5 9 Tryz.underlying98 Tryz.underlying5 Tryz.underlying9 L L hfin.out.2
      go_wp2
      go_ret
      exact ⟨rfl, by go_grown⟩

end Go.Proofs.YtekobdmlgbffnaaGreatDoor

/- syntax.Dots: its contract. -/
namespace Go.Proofs.YtekobdmlgbffnaaGreatDoor
set_option linter.unusedVariables false
set_option maxRecDepth 100000
set_option linter.unusedSimpArgs false
open Go.RowKit

def qB (a i : Nat) : Nat := a / 256 ^ (3 - i) % 256
def qcells (a i : Nat) : Array Value := ((List.range 4).map fun j => Value.string (bs (if j < i then decB (qB a j) else []))).toArray
theorem qcells_set (a i : Nat) (h : i < 4) : (qcells a i).setIfInBounds i (.string (bs (decB (qB a i)))) = qcells a (i + 1) := by
  apply Array.ext
  · simp [qcells]
  · intro j h1 h2
    have hj : j < 4 := by simpa [qcells] using h2
    rw [Array.getElem_setIfInBounds (by simpa [qcells] using hj)]
    by_cases he : i = j
    · subst he; simp [qcells]
    · rw [if_neg he]
      have : (j < i) ↔ (j < i + 1) := by omega
      simp [qcells, this]
theorem qcells_at (a i j : Nat) (h : j < 4) : (qcells a i)[j]? = some (.string (bs (if j < i then decB (qB a j) else []))) := by simp [qcells, h]
theorem q_step (a i : Nat) (ha : a < 4294967296) (h : i < 4) : a * 256 ^ i % 4294967296 / 16777216 = qB a i := by
  unfold qB
  match i, h with
  | 0, _ => simp; omega
  | 1, _ => simp; omega
  | 2, _ => simp; omega
  | 3, _ => simp; omega
theorem dotsB_q (a : Nat) (ha : a < 4294967296) : dotsB a = joinL 46 [decB (qB a 0), decB (qB a 1), decB (qB a 2), decB (qB a 3)] := by
  unfold dotsB qB
  simp only [Nat.sub_zero, Nat.reducePow, Nat.reduceSub, Nat.div_one, Nat.pow_zero]
theorem dec_len3 (n : Nat) (h : n < 256) : (decB n).length ≤ 3 := by
  by_cases h1 : n < 10
  · rw [decB_length n 1 (by omega) (by omega) (.inl rfl)]; omega
  · by_cases h2 : n < 100
    · rw [decB_length n 2 (by omega) (by omega) (.inr (by omega))]; omega
    · rw [decB_length n 3 (by omega) (by omega) (.inr (by omega))]; omega
theorem dots_len (a : Nat) : (dotsB a).length ≤ 15 := by
  unfold dotsB
  simp only [joinL, List.length_append, List.length_cons]
  have h1 := dec_len3 (a / 16777216 % 256) (by omega)
  have h2 := dec_len3 (a / 65536 % 256) (by omega)
  have h3 := dec_len3 (a / 256 % 256) (by omega)
  have h4 := dec_len3 (a % 256) (by omega)
  omega

set_option maxHeartbeats 1000000 in
theorem dots_ok (a : Nat) (w : World) (ha : a < 4294967296) :
    Calls Tryz.prog 92 #[.int .u32 a] w fun e w' => e = .returned (.string (bs (dotsB a))) ∧ Below w.heap.size w w' := by
  obtain ⟨R, hR⟩ : ∃ R, R = bs (dotsB a) := ⟨_, rfl⟩
  rw [← hR]
  have HR := Lib.hid hR
  clear hR
  have HQ0 := Lib.hid (show qcells a 0 = #[.string ⟨#[]⟩, .string ⟨#[]⟩, .string ⟨#[]⟩, .string ⟨#[]⟩] from rfl)
  go_enter Tryz.func92, Tryz.ntmps92
  go_wp2_with fail
  go_loopw [0, 5] (fun v0 v5 wr => ∃ (i x : Nat), i ≤ 4 ∧ v5 = .int .i64 i ∧ x < 4294967296 ∧ v0 = .int .u32 x ∧ Hid (x = a * 256 ^ i % 4294967296) ∧ Hid (Bk wr w.heap.size 185 (qcells a i)) ∧ Below w.heap.size w wr) (fun _ v5 _ => 4 - (intOf v5).toNat)
  case atStart => exact ⟨0, a, by omega, rfl, ha, rfl, Lib.hid (by simp; omega), Lib.hid (by rw [HQ0.out]; exact Bk.new _ _ _), (Below.refl _ _).alloc (Nat.le_refl _) _⟩
  case round =>
    obtain ⟨i, x, hi, rfl, hx, rfl, HX, HK, hbel⟩ := hrel
    by_cases hlt : i < 4
    · have HD := Lib.hid (show ∀ u, Calls Tryz.prog 50 #[.int .i64 ((x : Int) / 16777216)] u fun e w' => e = .returned (.string (bs (decB (qB a i)))) ∧ Below u.heap.size u w' from fun u => by
        have e1 : x / 16777216 = qB a i := by rw [HX.out]; exact q_step a i ha hlt
        have e2 : ((x : Int) / 16777216) = ((qB a i : Nat) : Int) := by rw [← e1]; simp
        rw [e2]
        exact dec_ok (qB a i) u (by unfold qB; omega))
      have HX2 := Lib.hid (show x * 256 % 4294967296 = a * 256 ^ (i + 1) % 4294967296 by rw [HX.out, Nat.pow_succ, ← Nat.mul_assoc, Nat.mod_mul_mod])
      obtain ⟨d, hd⟩ : ∃ d, bs (decB (qB a i)) = d := ⟨_, rfl⟩
      rw [hd] at HD
      have HDD := Lib.hid hd
      have hi4 : (i : Int) < 4 := by omega
      clear hd
      go_wp2_with (go_at_call 50; refine (HD.out _).mono ?_; rintro e w2 ⟨rfl, hb2⟩; have hk2 := HK.out.below hb2 HK.out.lt; have hc2 : w2.cell? ⟨w.heap.size, i, none⟩ = some (.string (bs (if i < i then decB (qB a i) else []))) := (by rw [hk2.cell]; exact qcells_at a i i hlt); have hf2 := hk2.frozen i)
      go_roundw
      case rel =>
        refine ⟨i + 1, x * 256 % 4294967296, by omega, by go_num, Nat.mod_lt _ (by omega), by go_num, HX2, Lib.hid ?_, (hbel.trans (hb2.mono hbel.size)).setCell (p := ⟨w.heap.size, i, none⟩) (Nat.le_refl _) _⟩
        have := hk2.set i (.string d)
        rw [← HDD.out, qcells_set a i hlt] at this
        rw [← HDD.out]
        exact this
      case measure => simp [intOf]; omega
    · obtain rfl : i = 4 := by omega
      have HJ := Lib.hid (show Calls Tryz.prog 89 #[.slice (some ⟨w.heap.size, 0, none⟩) 4 4, .string ⟨#[46]⟩] wr fun e w' => e = .returned (.string R) ∧ Below wr.heap.size wr w' by
        have hj := Tryz.strings_Join w.heap.size 0 4 [bs (decB (qB a 0)), bs (decB (qB a 1)), bs (decB (qB a 2)), bs (decB (qB a 3))] ⟨#[46]⟩ wr
          (fun j x hx => by
            have hj4 : j < 4 := by have := (List.getElem?_eq_some_iff.1 hx).1; simpa using this
            rw [Nat.zero_add, HK.out.cell, qcells_at a 4 j hj4, if_pos hj4]
            match j, hj4 with
            | 0, _ => simpa using hx
            | 1, _ => simpa using hx
            | 2, _ => simpa using hx
            | 3, _ => simpa using hx)
          HK.out.lt (by simp) (by simp)
        have hjl : Go.Lib.join ([bs (decB (qB a 0)), bs (decB (qB a 1)), bs (decB (qB a 2)), bs (decB (qB a 3))].map (·.data.toList)) (⟨#[46]⟩ : ByteArray).data.toList = dotsB a := by
          rw [dotsB_q a ha]
          simp only [List.map_cons, List.map_nil, bs_data]
          simp [Go.Lib.join, List.intercalate, joinL]
        rw [hjl] at hj
        have := hj (by have := dots_len a; omega)
        rw [HR.out]
        exact this)
      go_wp2_with (go_at_call 89; refine HJ.out.mono ?_; rintro e w2 ⟨rfl, hb2⟩)
      go_ret
      exact ⟨rfl, hbel.trans (hb2.mono hbel.size)⟩
end Go.Proofs.YtekobdmlgbffnaaGreatDoor

/- Slices of bytes that the call itself made: what they own, and what an append leaves. Nothing of the program is named here. -/
namespace Go.Proofs.YtekobdmlgbffnaaGreatDoor
set_option linter.unusedVariables false
set_option maxRecDepth 100000
set_option linter.unusedSimpArgs false
open Go.RowKit

/-- The slice at A, of capacity c, owns the bytes l: it lies at block B or behind it. -/
def OB (w : World) (B : Nat) (e : TypeId) (A : Option Addr) (c : Nat) (l : List UInt8) : Prop := w.ownsRow B e 1 (.slice A l.length c) l.length (l.map u8)

theorem OB.nil (w : World) (B : Nat) (e : TypeId) : OB w B e none 0 [] := World.ownsRow_nil w B e 1

theorem OB.form {w : World} {B : Nat} {e : TypeId} {A : Option Addr} {c : Nat} {l : List UInt8} (h : OB w B e A c l) (h0 : l ≠ []) : ∃ g, A = some ⟨g, 0, none⟩ ∧ B ≤ g ∧ g < w.heap.size := by
  have hp : 0 < l.length := List.length_pos_iff.2 h0
  obtain ⟨g, cap, hv, hb, hl⟩ := World.ownsRow.form h hp
  injection hv with h1 h2 h3
  exact ⟨g, h1, hb, hl⟩

theorem OB.rb {w : World} {B : Nat} {e : TypeId} {A : Option Addr} {c : Nat} {l : List UInt8} (h : OB w B e A c l) : Rb w w.heap.size A l := by
  by_cases h0 : l = []
  · exact .inl h0
  · obtain ⟨g, rfl, _, hl⟩ := h.form h0
    refine .inr ⟨g, 0, rfl, hl, fun i hi => ?_⟩
    have := World.ownsRow.cellAt h i (by omega)
    rw [Nat.zero_add, this]
    simp [hi]

theorem OB.cap {w : World} {B : Nat} {e : TypeId} {A : Option Addr} {c : Nat} {l : List UInt8} (h : OB w B e A c l) : l.length ≤ c ∧ c ≤ 9223372036854775807 := by
  rcases h.2 with ⟨hv, h0⟩ | ⟨g, cap, cur, hv, _, _, hn, hm, _⟩
  · injection hv with _ _ h3
    omega
  · injection hv with _ _ h3
    unfold maxLen at hm
    omega

theorem OB.new {w : World} {B : Nat} (e : TypeId) (l : List UInt8) (hB : B ≤ w.heap.size) (hl : l.length ≤ 140737488355328) : OB (w.alloc (.cells (bcells l) e)) B e (some ⟨w.heap.size, 0, none⟩) l.length l := by
  have := World.ownsRow_lit (base := B) (e := e) (size := 1) w (bcells l) l.length hB (by unfold maxLen; omega) (by rw [bcells_size]; omega)
  have e1 : (bcells l).toList = l.map u8 := by simp [bcells]
  rw [e1] at this
  exact this

theorem OB.grown {w w' : World} {B : Nat} {e : TypeId} {A : Option Addr} {c : Nat} {l : List UInt8} (h : OB w B e A c l) {row : Option Nat} (hg : w.grownBy w' row) (hne : (Value.slice A l.length c).ownBlock = none ∨ (Value.slice A l.length c).ownBlock ≠ row) : OB w' B e A c l :=
  World.ownsRow.kept h hg hne
theorem OB.alloc {w : World} {B : Nat} {e : TypeId} {A : Option Addr} {c : Nat} {l : List UInt8} (h : OB w B e A c l) (o : Obj) : OB (w.alloc o) B e A c l := World.ownsRow.alloc h o

/-- append of bytes that a slice reads as. -/
theorem wp_app {P : Program} {ops : Array Oper} {rest : List Oper} {o : Oper} {a : Act} {Q : Exit → Act → World → Prop} {w : World} (hgd : o.guard = none) (s x : Operand) (t e : TypeId)
    (ho : o.op = .call { callee := .builtin .append, args := #[s, x], argTypes := #[t, t] }) (ht : P.underlying t = some (.slice e))
    (hi : (P.info? e).map (fun i => (i.zero, i.size, i.bytes)) = some (some (.int .u8 0), 1, 1)) (B : Nat) (l : List UInt8) (A : Option Addr) (n c : Nat) (hs : a.eval s = .slice A n c) (hn : l.length = n) (hown : OB w B e A c l)
    (k : List UInt8) (ad : Addr) (m c' B' : Nat) (hx : a.eval x = .slice (some ad) m c') (hm : k.length = m) (hR : Rb w B' (some ad) k)
    (hlen : l.length + k.length ≤ 140737488355328) (hbase : B ≤ w.heap.size)
    (h : ∀ A2 c2 w', OB w' B e A2 c2 (l ++ k) → w.grownBy w' (Value.slice A n c).ownBlock → Below B w w' → wpList P ops Q rest (a.put o.dst (.slice A2 (l ++ k).length c2)) w') : wpList P ops Q (o :: rest) a w := by
  subst hn; subst hm
  obtain ⟨i, hi1, hz, hsz, hby⟩ := info_parts hi
  refine wpList_append_own w hgd s x t ho B e i (.int .u8 0) 1 1 ht hi1 hz hsz hby rfl (by decide) _ l.length (l.map u8) hs hown ad k.length c' (k.map u8) hx (by simp) ?_ ?_ (by unfold maxLen; omega) (by omega) hbase ?_
  · intro j u hu
    have hj : j < k.length := by
      rcases Nat.lt_or_ge j k.length with h1 | h1
      · exact h1
      · rw [List.getElem?_eq_none (by simpa using h1)] at hu; cases hu
    rcases hR with h0 | ⟨b, off, e1, _, hc⟩
    · subst h0; simp at hj
    · injection e1 with e1
      subst e1
      have hplain : (⟨b, off, none⟩ : Addr).add j = ⟨b, off + j, none⟩ := by unfold Addr.add; split <;> simp_all
      rw [hplain, hc j hj]
      simp [hj] at hu
      exact congrArg some hu
  · intro u hu
    obtain ⟨b, _, rfl⟩ := List.mem_map.1 hu
    rfl
  · intro v' w' hown' hg _
    have hbel : Below B w w' := (Below.refl B w).grown hg hbase (fun k hk => (World.ownsRow.lt hown k hk).1)
    have hlen' : (l ++ k).length = l.length + k.length := List.length_append
    by_cases h0 : l ++ k = []
    · have h00 : l.length + k.length = 0 := by rw [← hlen', h0]; rfl
      rw [h00] at hown'
      rcases hown'.2 with ⟨rfl, _⟩ | ⟨g, cap, cur, rfl, _, r⟩
      · have := h none 0 w' (by rw [h0]; exact OB.nil w' B e) hg hbel
        rwa [h0] at this
      · have := h (some ⟨g, 0, none⟩) cap w' (by
          rw [h0]
          have e2 : List.map u8 l ++ List.map u8 k = [] := by rw [← List.map_append, h0]; rfl
          rw [e2] at hown'
          exact hown') hg hbel
        rwa [h0] at this
    · have hp : 0 < l.length + k.length := by rw [← hlen']; exact List.length_pos_iff.2 h0
      obtain ⟨g, cap, rfl, _, _⟩ := World.ownsRow.form hown' hp
      have := h (some ⟨g, 0, none⟩) cap w' (by unfold OB; rw [hlen', List.map_append]; exact hown') hg hbel
      rwa [hlen'] at this

/-- The same, the slice of which bytes are appended being nil or not. -/
theorem wp_app_any {P : Program} {ops : Array Oper} {rest : List Oper} {o : Oper} {a : Act} {Q : Exit → Act → World → Prop} {w : World} (hgd : o.guard = none) (s x : Operand) (t e : TypeId)
    (ho : o.op = .call { callee := .builtin .append, args := #[s, x], argTypes := #[t, t] }) (ht : P.underlying t = some (.slice e))
    (hi : (P.info? e).map (fun i => (i.zero, i.size, i.bytes)) = some (some (.int .u8 0), 1, 1)) (B : Nat) (l : List UInt8) (A : Option Addr) (n c : Nat) (hs : a.eval s = .slice A n c) (hn : l.length = n) (hown : OB w B e A c l)
    (k : List UInt8) (A' : Option Addr) (m c' B' : Nat) (hx : a.eval x = .slice A' m c') (hm : k.length = m) (hnil : A' = none → m = 0 ∧ c' = 0) (hR : Rb w B' A' k)
    (hlen : l.length + k.length ≤ 140737488355328) (hbase : B ≤ w.heap.size)
    (h : ∀ A2 c2 w', OB w' B e A2 c2 (l ++ k) → w.grownBy w' (Value.slice A n c).ownBlock → Below B w w' → wpList P ops Q rest (a.put o.dst (.slice A2 (l ++ k).length c2)) w') : wpList P ops Q (o :: rest) a w := by
  cases A' with
  | some ad => exact wp_app hgd s x t e ho ht hi B l A n c hs hn hown k ad m c' B' hx hm hR hlen hbase h
  | none =>
    obtain ⟨rfl, rfl⟩ := hnil rfl
    have hk : k = [] := List.eq_nil_of_length_eq_zero hm
    subst hk
    subst hn
    obtain ⟨i, hi1, hz, hsz, hby⟩ := info_parts hi
    refine wpList_append_own_none hgd s x t ho B e i 1 ht hi1 _ l.length (l.map u8) hs hown hx ?_
    have := h A c w (by simpa using hown) (World.grownBy.refl w _) (Below.refl B w)
    simpa using this

/-- append of a text's bytes. -/
theorem wp_app_str {P : Program} {ops : Array Oper} {rest : List Oper} {o : Oper} {a : Act} {Q : Exit → Act → World → Prop} {w : World} (hgd : o.guard = none) (sl x : Operand) (t u e : TypeId)
    (ho : o.op = .call { callee := .builtin .append, args := #[sl, x], argTypes := #[t, u] }) (ht : P.underlying t = some (.slice e)) (hu : P.underlying u = some .string)
    (hi : (P.info? e).map (fun i => (i.zero, i.size, i.bytes)) = some (some (.int .u8 0), 1, 1)) (B : Nat) (l : List UInt8) (A : Option Addr) (n c : Nat) (hs : a.eval sl = .slice A n c) (hn : l.length = n) (hown : OB w B e A c l)
    (s : ByteArray) (hx : a.eval x = .string s) (hlen : l.length + s.size ≤ 140737488355328) (hbase : B ≤ w.heap.size)
    (h : ∀ A2 c2 w', OB w' B e A2 c2 (l ++ s.data.toList) → w.grownBy w' (Value.slice A n c).ownBlock → Below B w w' → wpList P ops Q rest (a.put o.dst (.slice A2 (l ++ s.data.toList).length c2)) w') : wpList P ops Q (o :: rest) a w := by
  subst hn
  obtain ⟨i, hi1, hz, hsz, hby⟩ := info_parts hi
  refine Go.Lib.wpList_append_own_string (w := w) hgd sl x t u ho B e i ht hu hi1 hz hsz hby _ l.length (l.map u8) hs hown s hx (by unfold maxLen; omega) (by omega) hbase ?_
  intro v' w' hown' hg _
  have hbel : Below B w w' := (Below.refl B w).grown hg hbase (fun k hk => (World.ownsRow.lt hown k hk).1)
  have hsl : s.data.toList.length = s.size := rfl
  have hlen' : (l ++ s.data.toList).length = l.length + s.size := by rw [List.length_append, hsl]
  have hst : Go.Lib.strCells s = s.data.toList.map u8 := rfl
  rw [hst, ← List.map_append] at hown'
  rw [← hlen'] at hown'
  by_cases h0 : l ++ s.data.toList = []
  · rw [h0] at hown'
    rcases hown'.2 with ⟨rfl, _⟩ | ⟨g, cap, cur, rfl, _, r⟩
    · have := h none 0 w' (by rw [h0]; exact OB.nil w' B e) hg hbel
      rwa [h0] at this
    · have := h (some ⟨g, 0, none⟩) cap w' (by rw [h0]; exact hown') hg hbel
      rwa [h0] at this
  · have hp : 0 < (l ++ s.data.toList).length := List.length_pos_iff.2 h0
    obtain ⟨g, cap, rfl, _, _⟩ := World.ownsRow.form hown' hp
    exact h (some ⟨g, 0, none⟩) cap w' hown' hg hbel

/-- make([]byte, 0, c): it owns nothing yet. -/
theorem mk_empty {P : Program} (w : World) (t e : TypeId) (ht : P.underlying t = some (.slice e)) (hi : (P.info? e).map (fun i => (i.zero, i.size, i.bytes)) = some (some (.int .u8 0), 1, 1)) (c : Nat) (hc : c ≤ 140737488355328) (kl kc : IntKind := .i64) :
    (Instr.makeSlice t (.int kl 0) (.int kc (c : Int))).run P w = .ok (.slice (some ⟨w.heap.size, 0, none⟩) 0 c) (w.alloc (.cells (Array.replicate c (.int .u8 0)) e)) := by
  obtain ⟨i, hi1, hz, hs, hb⟩ := info_parts hi
  have h := run_make (P := P) w t e i (.int .u8 0) ht hi1 hz kl kc 0 c (by omega) (by omega) (by rw [hb]; omega) (by omega)
  rw [h]
  have e1 : madeCells #[Value.int .u8 0] c = Array.replicate c (.int .u8 0) := by
    apply Array.ext'; rw [toList_madeCells_one]; simp
  simp [hs, Value.cells, e1]

theorem OB.made (w : World) {B : Nat} (e : TypeId) (c : Nat) (hB : B ≤ w.heap.size) (hc : c ≤ 140737488355328) : OB (w.alloc (.cells (Array.replicate c (.int .u8 0)) e)) B e (some ⟨w.heap.size, 0, none⟩) c [] := by
  have := World.ownsRow_made (base := B) (e := e) (size := 1) w (Array.replicate c (.int .u8 0)) c hB (by unfold maxLen; omega) (by simp)
  exact this

/-- One byte that has just been laid into a block of its own. -/
theorem Rb.one {w : World} {n : Nat} {t : TypeId} {c : UInt8} {v : Int} (hn : n = w.heap.size) (hv : v = (c.toNat : Int)) : Rb (w.alloc (.cells #[.int .u8 v] t)) (n + 1) (some ⟨n, 0, none⟩) [c] := by
  subst hv
  exact Rb.bk (t := t) (l := [c]) (Bk.here hn)

end Go.Proofs.YtekobdmlgbffnaaGreatDoor

/- Small texts. -/
namespace Go.Proofs.YtekobdmlgbffnaaGreatDoor
set_option linter.unusedVariables false
set_option maxRecDepth 100000
set_option linter.unusedSimpArgs false
open Go.RowKit

theorem bs_append (a b : List UInt8) : bs a ++ bs b = bs (a ++ b) := by
  have h : (bs a ++ bs b).data = (bs (a ++ b)).data := by simp [bs]
  cases h1 : bs a ++ bs b with
  | mk d1 => rw [h1] at h; cases h2 : bs (a ++ b) with
    | mk d2 => rw [h2] at h; simp at h; rw [h]
end Go.Proofs.YtekobdmlgbffnaaGreatDoor

/- syntax.Slash: its contract. (Written by gen_syn.py.) -/
namespace Go.Proofs.YtekobdmlgbffnaaGreatDoor
set_option linter.unusedVariables false
set_option maxRecDepth 100000
set_option linter.unusedSimpArgs false
open Go.RowKit

set_option maxHeartbeats 2000000 in
theorem slash_ok (n : Nat) (bits : Int) (w : World) (hn : n < 4294967296) :
    Calls Tryz.prog 51 #[.agg #[.int .u32 n, .int .i64 bits]] w fun e w' => e = .returned (.string (bs (slashL n bits))) ∧ Below w.heap.size w w' := by
  have HS := Lib.hid (NetAt.new w n bits 85)
  by_cases hr : rightB n bits = true
  · have hb : 0 ≤ bits ∧ bits ≤ 32 := by
      unfold rightB at hr
      simp only [Bool.and_eq_true, decide_eq_true_eq] at hr
      exact hr.1
    obtain ⟨b, rfl⟩ := Int.eq_ofNat_of_zero_le hb.1
    have hb2 : b ≤ 32 := by omega
    have HR := Lib.hid (fun u => netright_ok n b u hn)
    rw [hr] at HR
    obtain ⟨D, hD⟩ : ∃ D, bs (dotsB n) = D := ⟨_, rfl⟩
    obtain ⟨E, hE⟩ : ∃ E, bs (decB b) = E := ⟨_, rfl⟩
    have z1 : D.size ≤ 15 := by rw [← hD, bs_size]; exact dots_len n
    have z2 : E.size ≤ 3 := by rw [← hE, bs_size]; exact dec_len3 b (by omega)
    have HO := Lib.hid (fun u => dots_ok n u hn)
    rw [hD] at HO
    have HC := Lib.hid (fun u => dec_ok b u (by omega))
    rw [show (⟨(decB b).toArray⟩ : ByteArray) = E from hE] at HC
    have HL := Lib.hid (show bs (slashL n b) = D ++ ⟨#[47]⟩ ++ E by
      rw [← hD, ← hE, show (⟨#[47]⟩ : ByteArray) = bs [47] from rfl, bs_append, bs_append]
      unfold slashL
      rw [if_pos hr, List.append_assoc]; rfl)
    obtain ⟨R, hRR⟩ : ∃ R, bs (slashL n b) = R := ⟨_, rfl⟩
    rw [hRR] at HL ⊢
    clear hr hb hD hE hRR
    go_enter Tryz.func51, Tryz.ntmps51
    go_wp2_with (go_at_call 91; refine (HR.out _).mono ?_; rintro e w2 ⟨rfl, hb3⟩)
    have HS2 := Lib.hid (HS.out.on HS.out.b.size hb3).draw
    clear hb3
    try simp only [List.cons_append, List.nil_append]
    refine wp_region_held_drew (S := fun u => NetAt w.heap.size w w.heap.size n b u) (by kernel_rfl) (HS2.out) (fun hHeld => ?_)
    refine take_at (some 6) (i := 0) (v := ?_) rfl rfl (by kernel_rfl) (by kernel_rfl) (by kernel_rfl) (fun _ _ _ h => h) (Or.inl ⟨by kernel_rfl, ?_⟩) hHeld ?_
    rotate_left
    · intro wz hSw; have hc0 := hSw.c0; have hc1 := hSw.c1; go_simp; try (with_reducible rfl)
    try simp only [Act.put, List.setIfInBounds_toArray, List.set_cons_zero, List.set_cons_succ, List.getElem_toArray, List.getElem_cons_succ, List.getElem_cons_zero]
    refine take_at (some 7) (i := 1) (v := ?_) rfl rfl (by kernel_rfl) (by kernel_rfl) (by kernel_rfl) (fun _ _ _ h => h) (Or.inl ⟨by kernel_rfl, ?_⟩) hHeld ?_
    rotate_left
    · intro wz hSw; have hc0 := hSw.c0; have hc1 := hSw.c1; go_simp; try (with_reducible rfl)
    try simp only [Act.put, List.setIfInBounds_toArray, List.set_cons_zero, List.set_cons_succ, List.getElem_toArray, List.getElem_cons_succ, List.getElem_cons_zero]
    refine take_at (some 10) (i := 4) (v := ?_) rfl rfl (by kernel_rfl) (by kernel_rfl) (by kernel_rfl) (fun _ _ _ h => h) (Or.inl ⟨by kernel_rfl, ?_⟩) hHeld ?_
    rotate_left
    · intro wz hSw; have hc0 := hSw.c0; have hc1 := hSw.c1; go_simp; try (with_reducible rfl)
    try simp only [Act.put, List.setIfInBounds_toArray, List.set_cons_zero, List.set_cons_succ, List.getElem_toArray, List.getElem_cons_succ, List.getElem_cons_zero]
    refine take_at (some 11) (i := 5) (v := ?_) rfl rfl (by kernel_rfl) (by kernel_rfl) (by kernel_rfl) (fun _ _ _ h => h) (Or.inl ⟨by kernel_rfl, ?_⟩) hHeld ?_
    rotate_left
    · intro wz hSw; have hc0 := hSw.c0; have hc1 := hSw.c1; go_simp; try (with_reducible rfl)
    try simp only [Act.put, List.setIfInBounds_toArray, List.set_cons_zero, List.set_cons_succ, List.getElem_toArray, List.getElem_cons_succ, List.getElem_cons_zero]
    refine wpAnyH_ready (rs := [2]) (by kernel_rfl) (by simp) (AllReadyH.cons rfl (fun K hK => ?_) AllReadyH.nil)
    rw [if_pos (by kernel_rfl)]
    go_simp
    refine (HO.out _).mono ?_
    rintro e u2 ⟨rfl, hbu⟩
    try dsimp only
    refine hK.out _ _ (hHeld.on hHeld.b.size hbu) (fun hHeld => ?_)
    try simp only [Act.put, List.setIfInBounds_toArray, List.set_cons_zero, List.set_cons_succ, List.getElem_toArray, List.getElem_cons_succ, List.getElem_cons_zero]
    refine take_at (some 9) (i := 3) (v := ?_) rfl rfl (by kernel_rfl) (by kernel_rfl) (by kernel_rfl) (fun _ _ _ h => h) (Or.inl ⟨by kernel_rfl, ?_⟩) hHeld ?_
    rotate_left
    · intro wz hSw; have hq1 : ¬ 9223372036854775807 < D.size + 1 := (by omega); go_simp; try (with_reducible rfl)
    try simp only [Act.put, List.setIfInBounds_toArray, List.set_cons_zero, List.set_cons_succ, List.getElem_toArray, List.getElem_cons_succ, List.getElem_cons_zero]
    refine wpAnyH_ready (rs := [6]) (by kernel_rfl) (by simp) (AllReadyH.cons rfl (fun K hK => ?_) AllReadyH.nil)
    rw [if_pos (by kernel_rfl)]
    go_simp
    refine (HC.out _).mono ?_
    rintro e u3 ⟨rfl, hbu⟩
    try dsimp only
    refine hK.out _ _ (hHeld.on hHeld.b.size hbu) (fun hHeld => ?_)
    try simp only [Act.put, List.setIfInBounds_toArray, List.set_cons_zero, List.set_cons_succ, List.getElem_toArray, List.getElem_cons_succ, List.getElem_cons_zero]
    refine take_at (some 13) (i := 7) (v := ?_) rfl rfl (by kernel_rfl) (by kernel_rfl) (by kernel_rfl) (fun _ _ _ h => h) (Or.inl ⟨by kernel_rfl, ?_⟩) hHeld ?_
    rotate_left
    · intro wz hSw; have hq1 : ¬ 9223372036854775807 < D.size + 1 + E.size := (by omega); go_simp; try (with_reducible rfl)
    try simp only [Act.put, List.setIfInBounds_toArray, List.set_cons_zero, List.set_cons_succ, List.getElem_toArray, List.getElem_cons_succ, List.getElem_cons_zero]
    refine take_at (some 2) (i := 8) (v := ?_) rfl rfl (by kernel_rfl) (by kernel_rfl) (by kernel_rfl) (fun _ _ _ h => h) (Or.inl ⟨by kernel_rfl, ?_⟩) hHeld ?_
    rotate_left
    · intro wz hSw; have hq1 : ¬ 9223372036854775807 < D.size + 1 + E.size := (by omega); go_simp; try (with_reducible rfl)
    try simp only [Act.put, List.setIfInBounds_toArray, List.set_cons_zero, List.set_cons_succ, List.getElem_toArray, List.getElem_cons_succ, List.getElem_cons_zero]
    refine wpAnyH_done (by kernel_rfl) ?_ _
    go_wp2
    go_ret
    exact ⟨by rw [HL.out]; rfl, hHeld.b⟩
  · have hr2 : rightB n bits = false := by simpa using hr
    have HR := Lib.hid (fun u => netright_ok n bits u hn)
    rw [hr2] at HR
    have HL := Lib.hid (show bs (slashL n bits) = ⟨#[]⟩ by unfold slashL; rw [hr2]; rfl)
    rw [HL.out]
    clear hr hr2
    go_enter Tryz.func51, Tryz.ntmps51
    go_wp2_with (go_at_call 91; refine (HR.out _).mono ?_; rintro e w2 ⟨rfl, hb3⟩)
    go_ret
    exact ⟨rfl, HS.out.b.trans (hb3.mono HS.out.b.size)⟩
end Go.Proofs.YtekobdmlgbffnaaGreatDoor
