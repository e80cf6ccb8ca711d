/- Info, Dig, Deci, Bytes, StrOne, Open, AppOp, CgO, Iw, ConvR, InReg, Tail, Lib1, Cat, ConvB, CgIn: texts of this seat, one behind the other. -/
import Derived.Test.YtfpjkedcpnmfeaaDoorRows
import Derived.Test.YtfpjkedcpnmfeaaDoorM2
import Derived.Test.YtfpjkedcpnmfeaaDoorM1
import Derived.Lib.AppendStr
import Derived.Laws.AppendOwnNone
import Derived.Lib.SlBytesConst
import Derived.Deep.AppendLies
import Derived.ProofKit
import Derived.OpenShut
import Derived.ShutString
import Derived.ChangeOld
import Derived.Below
import Derived.SliceStrings
import Derived.Test.YtfpjkedcpnmfeaaDoorM3
import Derived.ControlIn
import Derived.OrdersIn
import Derived.CallsIn
import Derived.Laws.Concat
import Derived.Laws.IdiomStrings
import Derived.Laws.AppendOwn
import Derived.Deep.Fields
import Derived.Deep.SlicePairs
import Derived.Deep.Strs
import Derived.SizedLaws
/- A byte's type: its zero, its size. -/
namespace Go.Proofs.YtfpjkedcpnmfeaaDoor
theorem bytesInfo : (Tryd.prog.info? 5).map (fun i => (i.zero, i.size, i.bytes)) = some (some (.int .u8 0), 1, 1) := by kernel_rfl
end Go.Proofs.YtfpjkedcpnmfeaaDoor

/- num.digits: its contract. -/
namespace Go.Proofs.YtfpjkedcpnmfeaaDoor
set_option linter.unusedVariables false
set_option linter.unusedSimpArgs false
open Go.RowKit


theorem d_nonneg (n b : Nat) : (0 : Int) ≤ (n : Int) / (b : Int) := Int.ediv_nonneg (by omega) (by omega)
theorem d_le (n b k : Nat) (h : n ≤ k) : (n : Int) / (b : Int) ≤ (k : Int) := by
  have : n / b ≤ k := Nat.le_trans (Nat.div_le_self _ _) h
  have e : (n : Int) / (b : Int) = ((n / b : Nat) : Int) := by simp
  rw [e]; omega
theorem d_set {b n m k q : Nat} (h : k < m) (hq : q = n / b ^ k) (hb : 1 ≤ b) (hb2 : b ≤ 128) :
    (dcells b n m k).setIfInBounds (m - 1 - k) (.int .u8 ((q : Int) % (b : Int) % 256)) = dcells b n m (k + 1) := by
  rw [← dcells_set b n m k h, ← hq]
  have h1 : q % b < b := Nat.mod_lt _ (by omega)
  have h2 : (q : Int) % (b : Int) % 256 = ((q % b : Nat) : Int) := by
    have e : (q : Int) % (b : Int) = ((q % b : Nat) : Int) := by simp
    rw [e]; omega
  rw [h2]
theorem m_le {b m : Nat} (hb : 2 ≤ b) (h : b ^ m ≤ 1099511627776) : m + 1 ≤ 41 := by
  have h1 : 2 ^ m ≤ b ^ m := Nat.pow_le_pow_left hb m
  have h2 : (2 : Nat) ^ m ≤ 2 ^ 40 := Nat.le_trans h1 (by simpa using h)
  have := (Nat.pow_le_pow_iff_right (by omega : 1 < 2)).1 h2
  omega

set_option maxHeartbeats 400000 in
theorem digits_ok (n b : Nat) (w : World) (h1 : n ≤ 1099511627776) (hb : 2 ≤ b) (hb2 : b ≤ 128) :
    Calls Tryd.prog 34 #[.int .i64 n, .int .i64 b] w fun e w' => ∃ L : Nat, 1 ≤ L ∧ L ≤ 41 ∧ n < b ^ L ∧ (L = 1 ∨ b ^ (L - 1) ≤ n) ∧
      e = .returned (.slice (some ⟨w.heap.size, 0, none⟩) L L) ∧ w' = w.alloc (.cells (dcells b n L L) 5) := by
  have hmk := fun (m : Nat) (hm : m ≤ 41) => mk_bytes (P := Tryd.prog) w 47 5 Tryd.underlying47 bytesInfo m (by omega) (dcells b n m 0) (dcells_none b n m)
  have d0 : (0 : Int) ≤ (n : Int) / (b : Int) := d_nonneg n b
  have d00 : (n : Int) / (b : Int) ≤ 1099511627776 := d_le n b _ h1
  go_enter Tryd.func34, Tryd.ntmps34
  go_wp2
  go_loop [5, 6] (fun v5 v6 => ∃ m r : Nat, 1 ≤ m ∧ m ≤ 41 ∧ (m = 1 ∨ b ^ (m - 1) ≤ n) ∧ v5 = .int .i64 m ∧ r ≤ 1099511627776 ∧ Hid (r = n / b ^ m) ∧ v6 = .int .i64 (r : Int)) (fun _ v6 => (intOf v6).toNat)
  case atStart => exact ⟨1, n / b, by omega, by omega, .inl rfl, rfl, Nat.le_trans (Nat.div_le_self _ _) h1, Lib.hid (by simp), by simp⟩
  case round =>
    obtain ⟨m, r, hm1, hm2, hm3, rfl, hr, Hr, rfl⟩ := hrel
    have d1 : (0 : Int) ≤ (r : Int) / (b : Int) := d_nonneg r b
    have d2 : (r : Int) / (b : Int) ≤ 1099511627776 := d_le r b _ hr
    by_cases hz : 0 < r
    · go_wp2
      go_round
      case rel =>
        have h40 : b ^ m ≤ n := by
          have := Hr.out; rw [this] at hz
          exact (Nat.div_pos_iff.1 hz).2
        exact ⟨m + 1, r / b, by omega, m_le hb (Nat.le_trans h40 h1), .inr h40, by go_num, Nat.le_trans (Nat.div_le_self _ _) hr, Lib.hid (by rw [Hr.out, Nat.div_div_eq_div_mul, Nat.pow_succ]), by simp⟩
      case measure =>
        simp [intOf]
        exact Nat.div_lt_self hz (by omega)
    · have hlt : Hid (n < b ^ m) := by
        have := Hr.out
        have h0 : n / b ^ m = 0 := by omega
        exact Lib.hid ((Nat.div_eq_zero_iff_lt (Nat.pow_pos (by omega))).1 h0)
      clear Hr
      go_wp2
      go_loopw [0, 28] (fun v0 v28 wr => ∃ k q : Nat, k ≤ m ∧ v28 = .int .i64 k ∧ q ≤ 1099511627776 ∧ Hid (q = n / b ^ k) ∧ v0 = .int .i64 (q : Int) ∧ wr = w.alloc (.cells (dcells b n m k) 5)) (fun _ v28 _ => m - (intOf v28).toNat)
      case atStart => exact ⟨0, n, by omega, rfl, h1, Lib.hid (by simp), rfl, rfl⟩
      case round =>
        obtain ⟨k, q, hk, rfl, hq, Hq, rfl, rfl⟩ := hrel
        clear d1 d2
        have d1 : (0 : Int) ≤ (q : Int) / (b : Int) := d_nonneg q b
        have d2 : (q : Int) / (b : Int) ≤ 1099511627776 := d_le q b _ hq
        by_cases hkm : k < m
        · have hcell : (dcells b n m k)[m - 1 - k]? = some (.int .u8 0) := by
            rw [dcells_at _ _ _ _ _ (by omega), if_neg (by omega)]
          go_wp2
          go_roundw
          case rel =>
            exact ⟨k + 1, q / b, by omega, by go_num, Nat.le_trans (Nat.div_le_self _ _) hq, Lib.hid (by rw [Hq.out, Nat.div_div_eq_div_mul, Nat.pow_succ]), by simp, by rw [d_set hkm Hq.out (by omega) hb2]⟩
          case measure => simp [intOf]; omega
        · have ekm : k = m := by omega
          subst ekm
          go_wp2
          go_ret
          exact ⟨k, hm1, hm2, hlt.out, hm3, rfl, rfl⟩

set_option maxHeartbeats 400000 in
theorem digits_none (n b : Int) (w : World) (h1 : n < 0 ∨ 1099511627776 < n) :
    Calls Tryd.prog 34 #[.int .i64 n, .int .i64 b] w fun e w' => e = .returned (.slice none 0 0) ∧ w = w' := by
  rcases h1 with h1 | h1
  · go_enter Tryd.func34, Tryd.ntmps34
    go_wp2
    go_ret
    exact ⟨rfl, rfl⟩
  · have h2 : ¬ n < 0 := by omega
    go_enter Tryd.func34, Tryd.ntmps34
    go_wp2
    go_ret
    exact ⟨rfl, rfl⟩

theorem dmark_set {a n b L k d : Nat} (h : k < L) (hd : d = n / b ^ (L - 1 - k) % b) : (pcells a n b L k).setIfInBounds k (.int .u8 ((d : Int) + (a : Int))) = pcells a n b L (k + 1) := by
  rw [← pcells_set a n b L k h, ← hd]; simp
theorem dmark_at {a n b L k d : Nat} (h : k < L) (hd : d = n / b ^ (L - 1 - k) % b) : (pcells a n b L k)[k]? = some (.int .u8 (d : Int)) := by
  rw [pcells_at _ _ _ _ _ _ h, if_neg (by omega), ← hd]

end Go.Proofs.YtfpjkedcpnmfeaaDoor

/- num.Decimal: its contracts. -/
namespace Go.Proofs.YtfpjkedcpnmfeaaDoor
set_option linter.unusedVariables false
set_option linter.unusedSimpArgs false
open Go.RowKit

set_option maxHeartbeats 400000 in
theorem dec_ok (n : Nat) (w : World) (h1 : n ≤ 1099511627776) :
    Calls Tryd.prog 18 #[.int .i64 n] w fun e w' => e = .returned (.string ⟨(decB n).toArray⟩) ∧ Below w.heap.size w w' := by
  go_enter Tryd.func18, Tryd.ntmps18
  go_wp2_with fail
  refine (digits_ok n 10 _ h1 (by omega) (by omega)).mono ?_
  rintro e w' ⟨L, hL1, hL2, hlt, hge, rfl, rfl⟩
  have hfin := Lib.hid (And.intro (pcells_dec n L hL1 hlt hge) (decB_length n L hL1 hlt hge))
  clear hlt hge
  go_wp2_with fail
  go_loopw [9] (fun v9 wr => ∃ k : Nat, k ≤ L ∧ v9 = .int .i64 k ∧ wr = w.alloc (.cells (pcells 48 n 10 L k) 5)) (fun v9 _ => L - (intOf v9).toNat)
  case atStart => exact ⟨0, by omega, rfl, by rw [pcells_zero]⟩
  case round =>
    obtain ⟨k, hk, rfl, rfl⟩ := hrel
    by_cases hkL : k < L
    · obtain ⟨d, hd⟩ : ∃ d, d = n / 10 ^ (L - 1 - k) % 10 := ⟨_, rfl⟩
      have hd2 : d < 10 := by rw [hd]; exact Nat.mod_lt _ (by omega)
      have hcell := dmark_at (a := 48) (b := 10) (n := n) (d := d) (by omega : k < L) hd
      have Hd := Lib.hid hd
      clear hd
      go_wp2
      go_roundw
      case rel => exact ⟨k + 1, by omega, by go_num, by rw [← dmark_set (by omega) Hd.out]; rfl⟩
      case measure => simp [intOf]; omega
    · have hk2 : k = L := by omega
      rw [hk2, hfin.out.1]
      clear hk2
      have hst := str_of (P := Tryd.prog) (Rb.new w 5 (decB n)) 47 5 9 Tryd.underlying47 Tryd.underlying5 Tryd.underlying9 L L hfin.out.2
      go_wp2
      go_ret
      exact ⟨rfl, by go_grown⟩

set_option maxHeartbeats 400000 in
theorem dec_none (n : Int) (w : World) (h1 : n < 0 ∨ 1099511627776 < n) :
    Calls Tryd.prog 18 #[.int .i64 n] w fun e w' => e = .returned (.string ⟨#[]⟩) ∧ w = w' := by
  have hst := str_of (P := Tryd.prog) (Rb.nil w 0 none) 47 5 9 Tryd.underlying47 Tryd.underlying5 Tryd.underlying9 0 0 rfl
  go_enter Tryd.func18, Tryd.ntmps18
  go_wp2_with fail
  refine (digits_none n 10 _ h1).mono ?_
  rintro e w' ⟨rfl, rfl⟩
  go_wp2
  go_rounds 1
  go_ret
  exact ⟨rfl, rfl⟩
end Go.Proofs.YtfpjkedcpnmfeaaDoor

/- Slices of bytes that the call itself made: what they own, and what an append leaves. Nothing of the program is named here. -/
namespace Go.Proofs.YtfpjkedcpnmfeaaDoor
set_option linter.unusedVariables false
set_option linter.unusedSimpArgs false
open Go.RowKit

/-- The slice at A, of capacity c, owns the bytes l: it lies at block B or behind it. -/
def OB (w : World) (B : Nat) (e : TypeId) (A : Option Addr) (c : Nat) (l : List UInt8) : Prop := w.ownsRow B e 1 (.slice A l.length c) l.length (l.map u8)

theorem OB.nil (w : World) (B : Nat) (e : TypeId) : OB w B e none 0 [] := World.ownsRow_nil w B e 1

theorem OB.form {w : World} {B : Nat} {e : TypeId} {A : Option Addr} {c : Nat} {l : List UInt8} (h : OB w B e A c l) (h0 : l ≠ []) : ∃ g, A = some ⟨g, 0, none⟩ ∧ B ≤ g ∧ g < w.heap.size := by
  have hp : 0 < l.length := List.length_pos_iff.2 h0
  obtain ⟨g, cap, hv, hb, hl⟩ := World.ownsRow.form h hp
  injection hv with h1 h2 h3
  exact ⟨g, h1, hb, hl⟩

theorem OB.rb {w : World} {B : Nat} {e : TypeId} {A : Option Addr} {c : Nat} {l : List UInt8} (h : OB w B e A c l) : Rb w w.heap.size A l := by
  by_cases h0 : l = []
  · exact .inl h0
  · obtain ⟨g, rfl, _, hl⟩ := h.form h0
    refine .inr ⟨g, 0, rfl, hl, fun i hi => ?_⟩
    have := World.ownsRow.cellAt h i (by omega)
    rw [Nat.zero_add, this]
    simp [hi]

theorem OB.cap {w : World} {B : Nat} {e : TypeId} {A : Option Addr} {c : Nat} {l : List UInt8} (h : OB w B e A c l) : l.length ≤ c ∧ c ≤ 9223372036854775807 := by
  rcases h.2 with ⟨hv, h0⟩ | ⟨g, cap, cur, hv, _, _, hn, hm, _⟩
  · injection hv with _ _ h3
    omega
  · injection hv with _ _ h3
    unfold maxLen at hm
    omega

theorem OB.new {w : World} {B : Nat} (e : TypeId) (l : List UInt8) (hB : B ≤ w.heap.size) (hl : l.length ≤ 140737488355328) : OB (w.alloc (.cells (bcells l) e)) B e (some ⟨w.heap.size, 0, none⟩) l.length l := by
  have := World.ownsRow_lit (base := B) (e := e) (size := 1) w (bcells l) l.length hB (by unfold maxLen; omega) (by rw [bcells_size]; omega)
  have e1 : (bcells l).toList = l.map u8 := by simp [bcells]
  rw [e1] at this
  exact this

theorem OB.grown {w w' : World} {B : Nat} {e : TypeId} {A : Option Addr} {c : Nat} {l : List UInt8} (h : OB w B e A c l) {row : Option Nat} (hg : w.grownBy w' row) (hne : (Value.slice A l.length c).ownBlock = none ∨ (Value.slice A l.length c).ownBlock ≠ row) : OB w' B e A c l :=
  World.ownsRow.kept h hg hne
theorem OB.alloc {w : World} {B : Nat} {e : TypeId} {A : Option Addr} {c : Nat} {l : List UInt8} (h : OB w B e A c l) (o : Obj) : OB (w.alloc o) B e A c l := World.ownsRow.alloc h o

/-- append of bytes that a slice reads as. -/
theorem wp_app {P : Program} {ops : Array Oper} {rest : List Oper} {o : Oper} {a : Act} {Q : Exit → Act → World → Prop} {w : World} (hgd : o.guard = none) (s x : Operand) (t e : TypeId)
    (ho : o.op = .call { callee := .builtin .append, args := #[s, x], argTypes := #[t, t] }) (ht : P.underlying t = some (.slice e))
    (hi : (P.info? e).map (fun i => (i.zero, i.size, i.bytes)) = some (some (.int .u8 0), 1, 1)) (B : Nat) (l : List UInt8) (A : Option Addr) (n c : Nat) (hs : a.eval s = .slice A n c) (hn : l.length = n) (hown : OB w B e A c l)
    (k : List UInt8) (ad : Addr) (m c' B' : Nat) (hx : a.eval x = .slice (some ad) m c') (hm : k.length = m) (hR : Rb w B' (some ad) k)
    (hlen : l.length + k.length ≤ 140737488355328) (hbase : B ≤ w.heap.size)
    (h : ∀ A2 c2 w', OB w' B e A2 c2 (l ++ k) → w.grownBy w' (Value.slice A n c).ownBlock → Below B w w' → wpList P ops Q rest (a.put o.dst (.slice A2 (l ++ k).length c2)) w') : wpList P ops Q (o :: rest) a w := by
  subst hn; subst hm
  obtain ⟨i, hi1, hz, hsz, hby⟩ := info_parts hi
  refine wpList_append_own w hgd s x t ho B e i (.int .u8 0) 1 1 ht hi1 hz hsz hby rfl (by decide) _ l.length (l.map u8) hs hown ad k.length c' (k.map u8) hx (by simp) ?_ ?_ (by unfold maxLen; omega) (by omega) hbase ?_
  · intro j u hu
    have hj : j < k.length := by
      rcases Nat.lt_or_ge j k.length with h1 | h1
      · exact h1
      · rw [List.getElem?_eq_none (by simpa using h1)] at hu; cases hu
    rcases hR with h0 | ⟨b, off, e1, _, hc⟩
    · subst h0; simp at hj
    · injection e1 with e1
      subst e1
      have hplain : (⟨b, off, none⟩ : Addr).add j = ⟨b, off + j, none⟩ := by unfold Addr.add; split <;> simp_all
      rw [hplain, hc j hj]
      simp [hj] at hu
      exact congrArg some hu
  · intro u hu
    obtain ⟨b, _, rfl⟩ := List.mem_map.1 hu
    rfl
  · intro v' w' hown' hg _
    have hbel : Below B w w' := (Below.refl B w).grown hg hbase (fun k hk => (World.ownsRow.lt hown k hk).1)
    have hlen' : (l ++ k).length = l.length + k.length := List.length_append
    by_cases h0 : l ++ k = []
    · have h00 : l.length + k.length = 0 := by rw [← hlen', h0]; rfl
      rw [h00] at hown'
      rcases hown'.2 with ⟨rfl, _⟩ | ⟨g, cap, cur, rfl, _, r⟩
      · have := h none 0 w' (by rw [h0]; exact OB.nil w' B e) hg hbel
        rwa [h0] at this
      · have := h (some ⟨g, 0, none⟩) cap w' (by
          rw [h0]
          have e2 : List.map u8 l ++ List.map u8 k = [] := by rw [← List.map_append, h0]; rfl
          rw [e2] at hown'
          exact hown') hg hbel
        rwa [h0] at this
    · have hp : 0 < l.length + k.length := by rw [← hlen']; exact List.length_pos_iff.2 h0
      obtain ⟨g, cap, rfl, _, _⟩ := World.ownsRow.form hown' hp
      have := h (some ⟨g, 0, none⟩) cap w' (by unfold OB; rw [hlen', List.map_append]; exact hown') hg hbel
      rwa [hlen'] at this

/-- The same, the slice of which bytes are appended being nil or not. -/
theorem wp_app_any {P : Program} {ops : Array Oper} {rest : List Oper} {o : Oper} {a : Act} {Q : Exit → Act → World → Prop} {w : World} (hgd : o.guard = none) (s x : Operand) (t e : TypeId)
    (ho : o.op = .call { callee := .builtin .append, args := #[s, x], argTypes := #[t, t] }) (ht : P.underlying t = some (.slice e))
    (hi : (P.info? e).map (fun i => (i.zero, i.size, i.bytes)) = some (some (.int .u8 0), 1, 1)) (B : Nat) (l : List UInt8) (A : Option Addr) (n c : Nat) (hs : a.eval s = .slice A n c) (hn : l.length = n) (hown : OB w B e A c l)
    (k : List UInt8) (A' : Option Addr) (m c' B' : Nat) (hx : a.eval x = .slice A' m c') (hm : k.length = m) (hnil : A' = none → m = 0 ∧ c' = 0) (hR : Rb w B' A' k)
    (hlen : l.length + k.length ≤ 140737488355328) (hbase : B ≤ w.heap.size)
    (h : ∀ A2 c2 w', OB w' B e A2 c2 (l ++ k) → w.grownBy w' (Value.slice A n c).ownBlock → Below B w w' → wpList P ops Q rest (a.put o.dst (.slice A2 (l ++ k).length c2)) w') : wpList P ops Q (o :: rest) a w := by
  cases A' with
  | some ad => exact wp_app hgd s x t e ho ht hi B l A n c hs hn hown k ad m c' B' hx hm hR hlen hbase h
  | none =>
    obtain ⟨rfl, rfl⟩ := hnil rfl
    have hk : k = [] := List.eq_nil_of_length_eq_zero hm
    subst hk
    subst hn
    obtain ⟨i, hi1, hz, hsz, hby⟩ := info_parts hi
    refine wpList_append_own_none hgd s x t ho B e i 1 ht hi1 _ l.length (l.map u8) hs hown hx ?_
    have := h A c w (by simpa using hown) (World.grownBy.refl w _) (Below.refl B w)
    simpa using this

/-- append of a text's bytes. -/
theorem wp_app_str {P : Program} {ops : Array Oper} {rest : List Oper} {o : Oper} {a : Act} {Q : Exit → Act → World → Prop} {w : World} (hgd : o.guard = none) (sl x : Operand) (t u e : TypeId)
    (ho : o.op = .call { callee := .builtin .append, args := #[sl, x], argTypes := #[t, u] }) (ht : P.underlying t = some (.slice e)) (hu : P.underlying u = some .string)
    (hi : (P.info? e).map (fun i => (i.zero, i.size, i.bytes)) = some (some (.int .u8 0), 1, 1)) (B : Nat) (l : List UInt8) (A : Option Addr) (n c : Nat) (hs : a.eval sl = .slice A n c) (hn : l.length = n) (hown : OB w B e A c l)
    (s : ByteArray) (hx : a.eval x = .string s) (hlen : l.length + s.size ≤ 140737488355328) (hbase : B ≤ w.heap.size)
    (h : ∀ A2 c2 w', OB w' B e A2 c2 (l ++ s.data.toList) → w.grownBy w' (Value.slice A n c).ownBlock → Below B w w' → wpList P ops Q rest (a.put o.dst (.slice A2 (l ++ s.data.toList).length c2)) w') : wpList P ops Q (o :: rest) a w := by
  subst hn
  obtain ⟨i, hi1, hz, hsz, hby⟩ := info_parts hi
  refine Go.Lib.wpList_append_own_string (w := w) hgd sl x t u ho B e i ht hu hi1 hz hsz hby _ l.length (l.map u8) hs hown s hx (by unfold maxLen; omega) (by omega) hbase ?_
  intro v' w' hown' hg _
  have hbel : Below B w w' := (Below.refl B w).grown hg hbase (fun k hk => (World.ownsRow.lt hown k hk).1)
  have hsl : s.data.toList.length = s.size := rfl
  have hlen' : (l ++ s.data.toList).length = l.length + s.size := by rw [List.length_append, hsl]
  have hst : Go.Lib.strCells s = s.data.toList.map u8 := rfl
  rw [hst, ← List.map_append] at hown'
  rw [← hlen'] at hown'
  by_cases h0 : l ++ s.data.toList = []
  · rw [h0] at hown'
    rcases hown'.2 with ⟨rfl, _⟩ | ⟨g, cap, cur, rfl, _, r⟩
    · have := h none 0 w' (by rw [h0]; exact OB.nil w' B e) hg hbel
      rwa [h0] at this
    · have := h (some ⟨g, 0, none⟩) cap w' (by rw [h0]; exact hown') hg hbel
      rwa [h0] at this
  · have hp : 0 < (l ++ s.data.toList).length := List.length_pos_iff.2 h0
    obtain ⟨g, cap, rfl, _, _⟩ := World.ownsRow.form hown' hp
    exact h (some ⟨g, 0, none⟩) cap w' hown' hg hbel

/-- make([]byte, 0, c): it owns nothing yet. -/
theorem mk_empty {P : Program} (w : World) (t e : TypeId) (ht : P.underlying t = some (.slice e)) (hi : (P.info? e).map (fun i => (i.zero, i.size, i.bytes)) = some (some (.int .u8 0), 1, 1)) (c : Nat) (hc : c ≤ 140737488355328) (kl kc : IntKind := .i64) :
    (Instr.makeSlice t (.int kl 0) (.int kc (c : Int))).run P w = .ok (.slice (some ⟨w.heap.size, 0, none⟩) 0 c) (w.alloc (.cells (Array.replicate c (.int .u8 0)) e)) := by
  obtain ⟨i, hi1, hz, hs, hb⟩ := info_parts hi
  have h := run_make (P := P) w t e i (.int .u8 0) ht hi1 hz kl kc 0 c (by omega) (by omega) (by rw [hb]; omega) (by omega)
  rw [h]
  have e1 : madeCells #[Value.int .u8 0] c = Array.replicate c (.int .u8 0) := by
    apply Array.ext'; rw [toList_madeCells_one]; simp
  simp [hs, Value.cells, e1]

theorem OB.made (w : World) {B : Nat} (e : TypeId) (c : Nat) (hB : B ≤ w.heap.size) (hc : c ≤ 140737488355328) : OB (w.alloc (.cells (Array.replicate c (.int .u8 0)) e)) B e (some ⟨w.heap.size, 0, none⟩) c [] := by
  have := World.ownsRow_made (base := B) (e := e) (size := 1) w (Array.replicate c (.int .u8 0)) c hB (by unfold maxLen; omega) (by simp)
  exact this

/-- A block of constant bytes, with its mark. -/
theorem Rb.marked {w : World} {t : TypeId} {l : List UInt8} {fr : Nat × Nat} : Rb (w.alloc (.cells (bcells l) t fr)) (w.heap.size + 1) (some ⟨w.heap.size, 0, none⟩) l :=
  .inr ⟨w.heap.size, 0, rfl, by omega, fun i hi => by rw [cell_of_row _ _ _ _ t fr (heap_alloc_new w _), Nat.zero_add, bcells_at l i hi]⟩

/-- One byte that has just been laid into a block of its own. -/
theorem Rb.one {w : World} {n : Nat} {t : TypeId} {c : UInt8} {v : Int} (hn : n = w.heap.size) (hv : v = (c.toNat : Int)) : Rb (w.alloc (.cells #[.int .u8 v] t)) (n + 1) (some ⟨n, 0, none⟩) [c] := by
  subst hv
  exact Rb.bk (t := t) (l := [c]) (Bk.here hn)

end Go.Proofs.YtfpjkedcpnmfeaaDoor

/- Small texts. -/
namespace Go.Proofs.YtfpjkedcpnmfeaaDoor
set_option linter.unusedVariables false
set_option linter.unusedSimpArgs false
open Go.RowKit

/-- One byte as a text. -/
theorem str_one {wx : World} {c : UInt8} {v : Int} (hv : v = (c.toNat : Int)) : (convert 47 9 (.slice (some ⟨wx.heap.size, 0, none⟩) 1 1)).run Tryd.prog (wx.alloc (.cells #[.int .u8 v] 5)) = .ok (.string ⟨#[c]⟩) (wx.alloc (.cells #[.int .u8 v] 5)) :=
  str_of (P := Tryd.prog) (Rb.one (c := c) rfl hv) 47 5 9 Tryd.underlying47 Tryd.underlying5 Tryd.underlying9 1 1 rfl

theorem bs_append (a b : List UInt8) : bs a ++ bs b = bs (a ++ b) := by
  have h : (bs a ++ bs b).data = (bs (a ++ b)).data := by simp [bs]
  cases h1 : bs a ++ bs b with
  | mk d1 => rw [h1] at h; cases h2 : bs (a ++ b) with
    | mk d2 => rw [h2] at h; simp at h; rw [h]
end Go.Proofs.YtfpjkedcpnmfeaaDoor

/- What comes in, opened into my own words. Nothing of the program is named here. -/
namespace Go.Proofs.YtfpjkedcpnmfeaaDoor
set_option linter.unusedVariables false
set_option linter.unusedSimpArgs false
open Go.ChangeShapes Go.WideShapes Go.ChangeAt Go.RowKit

/-- A slice of bytes that came in. -/
structure InB (W : World) (A : Option Addr) (l : List UInt8) (n c : Nat) : Prop where
  rb : Rb W W.heap.size A l
  len : l.length = n
  cap : n ≤ c
  max : c ≤ maxLen
  nil_ : A = none → n = 0 ∧ c = 0

/-- A slice of integers that came in. -/
structure InN (k : IntKind) (W : World) (A : Option Addr) (l : List Int) (n c : Nat) : Prop where
  len : l.length = n
  cap : n ≤ c
  max : c ≤ maxLen
  nil_ : A = none → n = 0 ∧ c = 0
  at_ : n = 0 ∨ ∃ b o, A = some ⟨b, o, none⟩ ∧ b < W.heap.size ∧ ∀ i, (h : i < l.length) → W.cell? ⟨b, o + i, none⟩ = some (.int k l[i])
  wf : ∀ x ∈ l, (Lit.int k x).wf = true

theorem add_plain (b o i : Nat) : (⟨b, o, none⟩ : Addr).add i = ⟨b, o + i, none⟩ := by unfold Addr.add; split <;> simp_all

theorem open_nums {H : Type} {enc : TypeId × Value → H} {P : Program} {W : World} {A : Option Addr} {n c : Nat} {t e : TypeId} {k : IntKind} {d : DataW H} {p : List MemPlace} (ht : P.underlying t = some (.slice e)) (he : P.underlying e = some (.int k)) (hc : P.cellsOf e = 1)
    (h : DataW.Trod enc P W 0 (fun _ => true) true t (.slice A n c) d p) : ∃ l, InN k W A l n c := by
  obtain ⟨fuel, hf⟩ := h
  rcases open_ints ht he hc hf with ⟨hcs, _⟩ | ⟨x, ln, cp, zs, hcs, _, hl, hm, hz, _, hcell, hwz⟩
  · simp [Value.cells] at hcs
    obtain ⟨rfl, rfl, rfl⟩ := hcs
    exact ⟨[], ⟨rfl, Nat.le_refl _, by unfold maxLen; omega, fun _ => ⟨rfl, rfl⟩, .inl rfl, fun x hx => by cases hx⟩⟩
  · simp [Value.cells] at hcs
    obtain ⟨rfl, rfl, rfl⟩ := hcs
    have hzl : zs.length = c := by simpa using hz
    refine ⟨zs.take n, ⟨by rw [List.length_take]; omega, hl, hm, (fun h => by cases h), ?_, fun y hy => hwz y (List.mem_of_mem_take hy)⟩⟩
    by_cases h0 : n = 0
    · exact .inl h0
    · right
      obtain ⟨b, o, spot⟩ := x
      have hc0 := hcell 0 (by omega)
      have hspot : spot = none := by simpa [Addr.add] using World.cell?_spot hc0
      subst hspot
      refine ⟨b, o, rfl, ?_, fun i hi => ?_⟩
      · have := World.block_lt_of_cell? W _ hc0
        rw [add_plain] at this
        exact this
      · have hi' : i < zs.length := by rw [List.length_take] at hi; omega
        have := hcell i hi'
        rw [add_plain] at this
        rw [this]
        simp [List.getD, hi']

theorem open_bytes {H : Type} {enc : TypeId × Value → H} {P : Program} {W : World} {A : Option Addr} {n c : Nat} {t e : TypeId} {d : DataW H} {p : List MemPlace} (ht : P.underlying t = some (.slice e)) (he : P.underlying e = some (.int .u8)) (hc : P.cellsOf e = 1)
    (h : DataW.Trod enc P W 0 (fun _ => true) true t (.slice A n c) d p) : ∃ l, InB W A l n c := by
  obtain ⟨zs, hz⟩ := open_nums ht he hc h
  refine ⟨zs.map fun z => UInt8.ofNat z.toNat, ⟨?_, by rw [List.length_map]; exact hz.len, hz.cap, hz.max, hz.nil_⟩⟩
  rcases hz.at_ with h0 | ⟨b, o, e1, hb, hcell⟩
  · left
    have : zs = [] := List.eq_nil_of_length_eq_zero (by rw [hz.len, h0])
    rw [this]; rfl
  · right
    refine ⟨b, o, e1, hb, fun i hi => ?_⟩
    have hi' : i < zs.length := by simpa using hi
    rw [hcell i hi']
    have hw := hz.wf zs[i] (List.getElem_mem hi')
    have hr : 0 ≤ zs[i] ∧ zs[i] < 256 := by
      have e1 : IntKind.u8.min = 0 := by decide
      have e2 : IntKind.u8.max = 255 := by decide
      simp only [Lit.wf, e1, e2, Bool.and_eq_true, decide_eq_true_eq] at hw
      omega
    have : ((UInt8.ofNat (zs[i].toNat)).toNat : Int) = zs[i] := by
      rw [UInt8.toNat_ofNat']
      omega
    simp only [List.getElem_map]
    rw [this]

end Go.Proofs.YtfpjkedcpnmfeaaDoor

/- append as one operation of a region. Nothing of the program is named here. -/
namespace Go.Proofs.YtfpjkedcpnmfeaaDoor
set_option linter.unusedVariables false
set_option linter.unusedSimpArgs false
open Go.RowKit

/-- append of bytes, as one operation. -/
theorem op_app {P : Program} {o : Oper} {a : Act} {K : Act → World → Prop} {Q : Exit → Act → World → Prop} {w : World} (s x : Operand) (t e : TypeId)
    (ho : o.op = .call { callee := .builtin .append, args := #[s, x], argTypes := #[t, t] }) (ht : P.underlying t = some (.slice e))
    (hi : (P.info? e).map (fun i => (i.zero, i.size, i.bytes)) = some (some (.int .u8 0), 1, 1)) (B : Nat) (l : List UInt8) (A : Option Addr) (n c : Nat) (hs : a.eval s = .slice A n c) (hn : l.length = n) (hown : OB w B e A c l)
    (k : List UInt8) (ad : Addr) (m c' B' : Nat) (hx : a.eval x = .slice (some ad) m c') (hm : k.length = m) (hR : Rb w B' (some ad) k)
    (hlen : l.length + k.length ≤ 140737488355328) (hbase : B ≤ w.heap.size)
    (h : ∀ A2 c2 w', OB w' B e A2 c2 (l ++ k) → w.grownBy w' (Value.slice A n c).ownBlock → Below B w w' → K (a.put o.dst (.slice A2 (l ++ k).length c2)) w') : o.wp P a w K Q := by
  subst hn; subst hm
  obtain ⟨i, hi1, hz, hsz, hby⟩ := info_parts hi
  refine wp_append_own w s x t ho B e i (.int .u8 0) 1 1 ht hi1 hz hsz hby rfl (by decide) _ l.length (l.map u8) hs hown ad k.length c' (k.map u8) hx (by simp) ?_ ?_ (by unfold maxLen; omega) (by omega) hbase ?_
  · intro j u hu
    have hj : j < k.length := by
      rcases Nat.lt_or_ge j k.length with h1 | h1
      · exact h1
      · rw [List.getElem?_eq_none (by simpa using h1)] at hu; cases hu
    rcases hR with h0 | ⟨b, off, e1, _, hc⟩
    · subst h0; simp at hj
    · injection e1 with e1
      subst e1
      rw [add_plain, hc j hj]
      simp [hj] at hu
      exact congrArg some hu
  · intro u hu
    obtain ⟨b, _, rfl⟩ := List.mem_map.1 hu
    rfl
  · intro v' w' hown' hg _
    have hbel : Below B w w' := (Below.refl B w).grown hg hbase (fun k hk => (World.ownsRow.lt hown k hk).1)
    have hlen' : (l ++ k).length = l.length + k.length := List.length_append
    by_cases h0 : l ++ k = []
    · have h00 : l.length + k.length = 0 := by rw [← hlen', h0]; rfl
      rw [h00] at hown'
      rcases hown'.2 with ⟨rfl, _⟩ | ⟨g, cap, cur, rfl, _, r⟩
      · have := h none 0 w' (by rw [h0]; exact OB.nil w' B e) hg hbel
        rwa [h0] at this
      · have := h (some ⟨g, 0, none⟩) cap w' (by
          rw [h0]
          have e2 : List.map u8 l ++ List.map u8 k = [] := by rw [← List.map_append, h0]; rfl
          rw [e2] at hown'
          exact hown') hg hbel
        rwa [h0] at this
    · have hp : 0 < l.length + k.length := by rw [← hlen']; exact List.length_pos_iff.2 h0
      obtain ⟨g, cap, rfl, _, _⟩ := World.ownsRow.form hown' hp
      have := h (some ⟨g, 0, none⟩) cap w' (by unfold OB; rw [hlen', List.map_append]; exact hown') hg hbel
      rwa [hlen'] at this

/-- What the call owns stays owned where nothing that was there has turned. -/
theorem OB.stay {w w' : World} {B B' : Nat} {e : TypeId} {A : Option Addr} {c : Nat} {l : List UInt8} (h : OB w B e A c l) (hb : Below B' w w') (hB : w.heap.size ≤ B') : OB w' B e A c l := by
  refine ⟨h.1, ?_⟩
  rcases h.2 with hn | ⟨g, cap, cur, hv, hg, hh, r⟩
  · exact .inl hn
  · refine .inr ⟨g, cap, cur, hv, hg, ?_, r⟩
    rw [hb.block g (Nat.lt_of_lt_of_le (lt_of_block hh) hB)]
    exact hh

/-- What lies in another block than the row that has grown reads as it did. -/
theorem Rb.grown {w w' : World} {B : Nat} {g : Nat} {l : List UInt8} {row : Option Nat} (h : Rb w B (some ⟨g, 0, none⟩) l) (hg : w.grownBy w' row) (hlt : g < w.heap.size) (hne : row ≠ some g) : Rb w' B (some ⟨g, 0, none⟩) l := by
  rcases h with h | ⟨b, o, e, hb, hc⟩
  · exact .inl h
  · injection e with e
    injection e with e1 e2
    subst e1; subst e2
    exact .inr ⟨g, 0, rfl, hb, fun i hi => hg.cell (hc i hi) (fun h => hne h.symm)⟩

theorem OB.row {w : World} {B : Nat} {e : TypeId} {A : Option Addr} {n c : Nat} {l : List UInt8} (h : OB w B e A c l) (g : Nat) (hn : (Value.slice A n c).ownBlock = some g) : B ≤ g ∧ g < w.heap.size := by
  rcases h.2 with ⟨hv, _⟩ | ⟨g', cap, cur, hv, hb, hh, _⟩
  · injection hv with h1
    subst h1
    cases hn
  · injection hv with h1
    subst h1
    simp [Value.ownBlock] at hn
    subst hn
    exact ⟨hb, lt_of_block hh⟩

/-- The same, what is appended being nil or not. -/
theorem op_app_any {P : Program} {o : Oper} {a : Act} {K : Act → World → Prop} {Q : Exit → Act → World → Prop} {w : World} (s x : Operand) (t e : TypeId)
    (ho : o.op = .call { callee := .builtin .append, args := #[s, x], argTypes := #[t, t] }) (ht : P.underlying t = some (.slice e))
    (hi : (P.info? e).map (fun i => (i.zero, i.size, i.bytes)) = some (some (.int .u8 0), 1, 1)) (B : Nat) (l : List UInt8) (A : Option Addr) (n c : Nat) (hs : a.eval s = .slice A n c) (hn : l.length = n) (hown : OB w B e A c l)
    (k : List UInt8) (A' : Option Addr) (m c' B' : Nat) (hx : a.eval x = .slice A' m c') (hm : k.length = m) (hnil : A' = none → m = 0 ∧ c' = 0) (hR : Rb w B' A' k)
    (hlen : l.length + k.length ≤ 140737488355328) (hbase : B ≤ w.heap.size)
    (h : ∀ A2 c2 w', OB w' B e A2 c2 (l ++ k) → w.grownBy w' (Value.slice A n c).ownBlock → Below B w w' → K (a.put o.dst (.slice A2 (l ++ k).length c2)) w') : o.wp P a w K Q := by
  cases A' with
  | some ad => exact op_app s x t e ho ht hi B l A n c hs hn hown k ad m c' B' hx hm hR hlen hbase h
  | none =>
    obtain ⟨rfl, rfl⟩ := hnil rfl
    have hk : k = [] := List.eq_nil_of_length_eq_zero hm
    subst hk
    subst hn
    obtain ⟨i, hi1, hz, hsz, hby⟩ := info_parts hi
    have hrun := run_append_owned_none (P := P) (w := w) B t o.type e i 1 ht hi1 _ l.length (l.map u8) hown
    unfold Oper.wp
    simp [execOp, ho, resolve, invoke, builtin, hs, hx, hrun, Result.andThen]
    have := h A c w (by simpa using hown) (World.grownBy.refl w _) (Below.refl B w)
    exact (by simpa using this : K (a.put o.dst (Value.slice A l.length c)) w)
/-- append of a text's bytes, as one operation. -/
theorem op_app_str {P : Program} {o : Oper} {a : Act} {K : Act → World → Prop} {Q : Exit → Act → World → Prop} {w : World} (sl x : Operand) (t u e : TypeId)
    (ho : o.op = .call { callee := .builtin .append, args := #[sl, x], argTypes := #[t, u] }) (ht : P.underlying t = some (.slice e)) (hu : P.underlying u = some .string)
    (hi : (P.info? e).map (fun i => (i.zero, i.size, i.bytes)) = some (some (.int .u8 0), 1, 1)) (B : Nat) (l : List UInt8) (A : Option Addr) (n c : Nat) (hs : a.eval sl = .slice A n c) (hn : l.length = n) (hown : OB w B e A c l)
    (s : ByteArray) (hx : a.eval x = .string s) (hlen : l.length + s.size ≤ 140737488355328) (hbase : B ≤ w.heap.size)
    (h : ∀ A2 c2 w', OB w' B e A2 c2 (l ++ s.data.toList) → w.grownBy w' (Value.slice A n c).ownBlock → Below B w w' → K (a.put o.dst (.slice A2 (l ++ s.data.toList).length c2)) w') : o.wp P a w K Q := by
  subst hn
  obtain ⟨i, hi1, hz, hsz, hby⟩ := info_parts hi
  obtain ⟨v', w', hr, hown', hg, _⟩ := Go.Lib.run_append_own_string (P := P) w B t u o.type e i ht hu hi1 hz hsz hby _ l.length (l.map u8) hown s (by unfold maxLen; omega) (by omega) hbase
  have hK : K (a.put o.dst v') w' := by
    have hbel : Below B w w' := (Below.refl B w).grown hg hbase (fun k hk => (World.ownsRow.lt hown k hk).1)
    have hsl : s.data.toList.length = s.size := rfl
    have hlen' : (l ++ s.data.toList).length = l.length + s.size := by rw [List.length_append, hsl]
    have hst : Go.Lib.strCells s = s.data.toList.map u8 := rfl
    rw [hst, ← List.map_append] at hown'
    rw [← hlen'] at hown'
    by_cases h0 : l ++ s.data.toList = []
    · rw [h0] at hown'
      rcases hown'.2 with ⟨rfl, _⟩ | ⟨g, cap, cur, rfl, _, r⟩
      · have := h none 0 w' (by rw [h0]; exact OB.nil w' B e) hg hbel
        rwa [h0] at this
      · have := h (some ⟨g, 0, none⟩) cap w' (by rw [h0]; exact hown') hg hbel
        rwa [h0] at this
    · have hp : 0 < (l ++ s.data.toList).length := List.length_pos_iff.2 h0
      obtain ⟨g, cap, rfl, _, _⟩ := World.ownsRow.form hown' hp
      exact h (some ⟨g, 0, none⟩) cap w' hown' hg hbel
  unfold Oper.wp execOp
  simp only [ho, resolve, invoke, builtin, Sem.run_bind, Sem.run_pure, Result.andThen_ok, List.map_toArray, List.map_cons, List.map_nil, hs, hx, hr]
  exact hK
/-- An operation whose guard is met. -/
theorem wpList_wanted {P : Program} {ops : Array Oper} {Q : Exit → Act → World → Prop} {a : Act} {w : World} {rest : List Oper} {o : Oper} (hw : Region.wanted o (yielded ops a.tmps) = true)
    (h : ∀ K : Act → World → Prop, (∀ a w, wpList P ops Q rest a w → K a w) → o.wp P a w K Q) : wpList P ops Q (o :: rest) a w :=
  wpList_step fun K hK => by simp only [hw, if_true]; exact h K hK
theorem OB.drew {w : World} {B : Nat} {e : TypeId} {A : Option Addr} {c : Nat} {l : List UInt8} (h : OB w B e A c l) : OB w.drew B e A c l := World.ownsRow.drew h
theorem Rb.two {w : World} {t : TypeId} {a b : UInt8} : Rb (w.alloc (.cells #[.int .u8 (a.toNat : Int), .int .u8 (b.toNat : Int)] t)) (w.heap.size + 1) (some ⟨w.heap.size, 0, none⟩) [a, b] := Rb.bk (t := t) (l := [a, b]) (Bk.new w t _)
end Go.Proofs.YtfpjkedcpnmfeaaDoor

/- Rows of structs that the call owns; append of rows of structs. -/
namespace Go.Proofs.YtfpjkedcpnmfeaaDoor
set_option linter.unusedVariables false
set_option linter.unusedSimpArgs false
open Go.RowKit

def fl {β : Type} (f : β → Array Value) (l : List β) : List Value := l.flatMap fun x => (f x).toList
theorem fl_app {β : Type} (f : β → Array Value) (a b : List β) : fl f (a ++ b) = fl f a ++ fl f b := by simp [fl]
theorem fl_length {β : Type} {k : Nat} {f : β → Array Value} (hf : ∀ x, (f x).size = k) : ∀ l : List β, (fl f l).length = l.length * k
  | [] => by simp [fl]
  | x :: l => by
    have := fl_length hf l
    simp only [fl, List.flatMap_cons, List.length_append, Array.length_toList, hf, List.length_cons] at this ⊢
    rw [this, Nat.add_mul, Nat.one_mul, Nat.add_comm]
theorem fl_at {β : Type} {k : Nat} {f : β → Array Value} (hf : ∀ x, (f x).size = k) : ∀ (l : List β) (i : Nat) (h : i < l.length) (j : Nat), j < k → (fl f l)[i * k + j]? = (f l[i])[j]?
  | [], i, h, _, _ => by simp at h
  | x :: l, 0, h, j, hj => by
    simp only [fl, List.flatMap_cons, Nat.zero_mul, Nat.zero_add, List.getElem_cons_zero]
    rw [List.getElem?_append_left (by rw [Array.length_toList, hf]; exact hj), Array.getElem?_toList]
  | x :: l, i + 1, h, j, hj => by
    have := fl_at hf l i (by simpa using h) j hj
    simp only [fl, List.flatMap_cons, List.getElem_cons_succ] at this ⊢
    rw [List.getElem?_append_right (by rw [Array.length_toList, hf, Nat.add_mul]; omega), Array.length_toList, hf, Nat.add_mul, Nat.one_mul, ← this]
    congr 1
    omega
theorem fl_mem {β : Type} {f : β → Array Value} {l : List β} {u : Value} (h : u ∈ fl f l) : ∃ x ∈ l, u ∈ f x := by
  obtain ⟨x, hx, hu⟩ := List.mem_flatMap.1 h
  exact ⟨x, hx, by simpa using hu⟩
theorem fl_all {β : Type} {k : Nat} {f : β → Array Value} (hf : ∀ x, (f x).size = k) (hk : 0 < k) (l : List β) (q : Nat) (u : Value) (h : (fl f l)[q]? = some u) : ∃ i j, ∃ hi : i < l.length, j < k ∧ q = i * k + j ∧ (f l[i])[j]? = some u := by
  have hq : q < l.length * k := by
    have := (List.getElem?_eq_some_iff.1 h).1
    rwa [fl_length hf] at this
  have h1 : q / k < l.length := (Nat.div_lt_iff_lt_mul hk).2 hq
  have h2 := Nat.mod_lt q hk
  have h3 : q = q / k * k + q % k := by rw [Nat.mul_comm]; exact (Nat.div_add_mod q k).symm
  refine ⟨q / k, q % k, h1, h2, h3, ?_⟩
  rw [← fl_at hf l (q / k) h1 (q % k) h2, ← h3, h]

/-- How rows of a type lie. -/
structure Ro {β : Type} (P : Program) (t e : TypeId) (k by_ : Nat) (f : β → Array Value) : Prop where
  ht : P.underlying t = some (.slice e)
  hi : ∃ i z, P.info? e = some i ∧ i.zero = some z ∧ i.size = k ∧ i.bytes = by_ ∧ z.cells.size = k
  k0 : 0 < k
  fs : ∀ x, (f x).size = k
  one : ∀ x, ∀ u ∈ f x, u.oneCell' = true
  few : by_ ≤ 128

/-- The slice at A, of capacity c, owns the rows l: it lies at block B or behind it. -/
def Ow {β : Type} (e : TypeId) (k : Nat) (f : β → Array Value) (w : World) (B : Nat) (A : Option Addr) (c : Nat) (l : List β) : Prop := w.ownsRow B e k (.slice A l.length c) l.length (fl f l)

section
variable {β : Type} {P : Program} {t e : TypeId} {k by_ : Nat} {f : β → Array Value} {w w' : World} {B : Nat} {A : Option Addr} {c : Nat} {l : List β}

theorem Ow.nil (w : World) (B : Nat) : Ow e k f w B none 0 [] := World.ownsRow_nil w B e k
theorem Ow.rw_ (hf : ∀ x, (f x).size = k) (h : Ow e k f w B A c l) : Rw k f w A l := by
  by_cases h0 : l = []
  · exact .inl h0
  · have hp : 0 < l.length := List.length_pos_iff.2 h0
    obtain ⟨g, cap, hv, hb, hl⟩ := World.ownsRow.form h hp
    injection hv with h1 _ _
    subst h1
    refine .inr ⟨g, 0, rfl, hl, fun i hi j hj => ?_⟩
    have hlt : i * k + j < l.length * k := by
      have h2 : (i + 1) * k ≤ l.length * k := Nat.mul_le_mul_right k (by omega)
      rw [Nat.add_mul, Nat.one_mul] at h2
      omega
    have e1 := World.ownsRow.cellAt h (i * k + j) hlt
    rw [Nat.zero_add, e1, fl_at hf l i hi j hj]
theorem Ow.fit (h : Ow e k f w B A c l) : Fit A l.length c := by
  rcases h.2 with ⟨hv, h0⟩ | ⟨g, cap, cur, hv, _, _, hn, hm, _⟩
  · injection hv with h1 _ h3
    exact ⟨by omega, by omega, fun _ => ⟨h0, h3⟩⟩
  · injection hv with h1 _ h3
    unfold maxLen at hm
    exact ⟨by omega, by omega, fun e => by rw [e] at h1; cases h1⟩
/-- What the call owns stays owned where its block stays. -/
theorem Ow.keep (h : Ow e k f w B A c l) (hk : ∀ g cs, B ≤ g → Bk w g e cs → Bk w' g e cs) : Ow e k f w' B A c l := by
  refine ⟨h.1, ?_⟩
  rcases h.2 with hn | ⟨g, cap, cur, hv, hg, hh, r⟩
  · exact .inl hn
  · exact .inr ⟨g, cap, cur, hv, hg, hk g cur hg hh, r⟩
theorem Ow.set (h : Ow e k f w B A c l) {p : Addr} (hp : p.block < B) (v : Value) : Ow e k f (w.setCell p v) B A c l := h.keep fun g cs hg hh => hh.far (by omega) v
theorem Ow.on (h : Ow e k f w B A c l) (hb : Below w.heap.size w w') : Ow e k f w' B A c l := h.keep fun g cs _ hh => hh.below hb hh.lt
/-- Its block. -/
theorem Ow.block (h : Ow e k f w B A c l) (n : Nat) (g : Nat) (hn : (Value.slice A n c).ownBlock = some g) : B ≤ g ∧ g < w.heap.size ∧ ∃ cs, Bk w g e cs := by
  rcases h.2 with ⟨hv, _⟩ | ⟨g', cap, cur, hv, hb, hh, _⟩
  · injection hv with h1
    subst h1
    cases hn
  · injection hv with h1
    subst h1
    simp [Value.ownBlock] at hn
    subst hn
    exact ⟨hb, lt_of_block hh, cur, hh⟩
theorem Rw.bk {g : Nat} {t' : TypeId} {x : β} (h : Bk w g t' (f x)) : Rw k f w (some ⟨g, 0, none⟩) [x] :=
  .inr ⟨g, 0, rfl, h.lt, fun i hi j _ => by
    have hi0 : i = 0 := by simp at hi; omega
    subst hi0
    rw [h.cell]; simp⟩

/-- append of rows, as one operation. -/
theorem op_rows (R : Ro P t e k by_ f) {o : Oper} {a : Act} {K : Act → World → Prop} {Q : Exit → Act → World → Prop} (s x : Operand)
    (ho : o.op = .call { callee := .builtin .append, args := #[s, x], argTypes := #[t, t] }) (n : Nat) (hs : a.eval s = .slice A n c) (hn : l.length = n) (hown : Ow e k f w B A c l)
    (M : List β) (A' : Option Addr) (m c' : Nat) (hx : a.eval x = .slice A' m c') (hm : M.length = m) (hnil : A' = none → m = 0 ∧ c' = 0) (hR : Rw k f w A' M)
    (hlen : n + m ≤ 1099511627776) (hbase : B ≤ w.heap.size) (s' : Nat) (hsum : n + m = s')
    (h : ∀ A2 c2 w', Ow e k f w' B A2 c2 (l ++ M) → w.grownBy w' (Value.slice A n c).ownBlock → Below B w w' → K (a.put o.dst (.slice A2 s' c2)) w') : o.wp P a w K Q := by
  obtain ⟨i, z, hi1, hz, hsz, hby, hzc⟩ := R.hi
  subst hn; subst hm; subst hsum
  cases A' with
  | none =>
    obtain ⟨h0, rfl⟩ := hnil rfl
    have hk : M = [] := List.eq_nil_of_length_eq_zero h0
    subst hk
    have hrun := run_append_owned_none (P := P) (w := w) B t o.type e i k R.ht hi1 _ l.length (fl f l) hown
    unfold Oper.wp
    simp [execOp, ho, resolve, invoke, builtin, hs, hx, hrun, Result.andThen]
    have := h A c w (by simpa using hown) (World.grownBy.refl w _) (Below.refl B w)
    exact (by simpa using this : K (a.put o.dst (Value.slice A l.length c)) w)
  | some ad =>
    have hb8 : (l.length + M.length) * by_ ≤ 140737488355328 := Nat.le_trans (Nat.mul_le_mul hlen R.few) (by decide)
    refine wp_append_own w s x t ho B e i z k by_ R.ht hi1 hz hsz hby hzc R.k0 _ l.length (fl f l) hs hown ad M.length c' (fl f M) hx (fl_length R.fs M) ?_ ?_ (by unfold maxLen; omega) hb8 hbase ?_
    · intro q u hu
      obtain ⟨i', j, hi', hj, rfl, hv⟩ := fl_all R.fs R.k0 M q u hu
      rcases hR with h0 | ⟨b, o', e1, _, hc⟩
      · subst h0; simp at hi'
      · injection e1 with e1
        subst e1
        rw [add_plain, ← Nat.add_assoc, hc i' hi' j hj, hv]
    · intro u hu
      obtain ⟨y, _, hy⟩ := fl_mem hu
      exact R.one y u hy
    · intro v' w' hown' hg _
      have hbel : Below B w w' := (Below.refl B w).grown hg hbase (fun k hk => (World.ownsRow.lt hown k hk).1)
      have hlen' : (l ++ M).length = l.length + M.length := List.length_append
      rw [← fl_app] at hown'
      rw [← hlen'] at hown'
      by_cases h0 : l ++ M = []
      · rw [h0] at hown'
        rcases hown'.2 with ⟨rfl, _⟩ | ⟨g, cap, cur, rfl, _, r⟩
        · have := h none 0 w' (by rw [h0]; exact Ow.nil w' B) hg hbel
          rwa [← hlen', h0] at this
        · have := h (some ⟨g, 0, none⟩) cap w' (by rw [h0]; exact hown') hg hbel
          rwa [← hlen', h0] at this
      · have hp : 0 < (l ++ M).length := List.length_pos_iff.2 h0
        obtain ⟨g, cap, rfl, _, _⟩ := World.ownsRow.form hown' hp
        have := h (some ⟨g, 0, none⟩) cap w' hown' hg hbel
        rwa [← hlen'] at this
/-- The same, in a region that draws nothing. -/
theorem wp_rows (R : Ro P t e k by_ f) {ops : Array Oper} {rest : List Oper} {o : Oper} {a : Act} {Q : Exit → Act → World → Prop} (hw : Region.wanted o (yielded ops a.tmps) = true) (s x : Operand)
    (ho : o.op = .call { callee := .builtin .append, args := #[s, x], argTypes := #[t, t] }) (n : Nat) (hs : a.eval s = .slice A n c) (hn : l.length = n) (hown : Ow e k f w B A c l)
    (M : List β) (A' : Option Addr) (m c' : Nat) (hx : a.eval x = .slice A' m c') (hm : M.length = m) (hnil : A' = none → m = 0 ∧ c' = 0) (hR : Rw k f w A' M)
    (hlen : n + m ≤ 1099511627776) (hbase : B ≤ w.heap.size) (s' : Nat) (hsum : n + m = s')
    (h : ∀ A2 c2 w', Ow e k f w' B A2 c2 (l ++ M) → w.grownBy w' (Value.slice A n c).ownBlock → Below B w w' → wpList P ops Q rest (a.put o.dst (.slice A2 s' c2)) w') : wpList P ops Q (o :: rest) a w :=
  wpList_wanted hw fun K hK => op_rows R s x ho n hs hn hown M A' m c' hx hm hnil hR hlen hbase s' hsum (fun A2 c2 w' k1 k2 k3 => hK _ _ (h A2 c2 w' k1 k2 k3))
theorem wp_rows0 (R : Ro P t e k by_ f) {ops : Array Oper} {rest : List Oper} {o : Oper} {a : Act} {Q : Exit → Act → World → Prop} (hgd : o.guard = none) (s x : Operand)
    (ho : o.op = .call { callee := .builtin .append, args := #[s, x], argTypes := #[t, t] }) (n : Nat) (hs : a.eval s = .slice A n c) (hn : l.length = n) (hown : Ow e k f w B A c l)
    (M : List β) (A' : Option Addr) (m c' : Nat) (hx : a.eval x = .slice A' m c') (hm : M.length = m) (hnil : A' = none → m = 0 ∧ c' = 0) (hR : Rw k f w A' M)
    (hlen : n + m ≤ 1099511627776) (hbase : B ≤ w.heap.size) (s' : Nat) (hsum : n + m = s')
    (h : ∀ A2 c2 w', Ow e k f w' B A2 c2 (l ++ M) → w.grownBy w' (Value.slice A n c).ownBlock → Below B w w' → wpList P ops Q rest (a.put o.dst (.slice A2 s' c2)) w') : wpList P ops Q (o :: rest) a w :=
  wpList_plain hgd fun K hK => op_rows R s x ho n hs hn hown M A' m c' hx hm hnil hR hlen hbase s' hsum (fun A2 c2 w' k1 k2 k3 => hK _ _ (h A2 c2 w' k1 k2 k3))
/-- An empty row of its own. -/
theorem Ow.empty (w : World) (B : Nat) (hB : B ≤ w.heap.size) : Ow e k f (w.alloc (.cells #[] e)) B (some ⟨w.heap.size, 0, none⟩) 0 ([] : List β) := by
  have := World.ownsRow_lit (base := B) (e := e) (size := k) w #[] 0 hB (by unfold maxLen; omega) (by simp)
  exact this
end

theorem roN : Ro Tryd.prog 35 53 2 16 ncs := ⟨Tryd.underlying35, (by
  obtain ⟨i, h1, h2, h3, h4⟩ := info_parts (show (Tryd.prog.info? 53).map (fun i => (i.zero, i.size, i.bytes)) = some (some (.agg #[.int .u32 0, .int .i64 0]), 2, 16) by kernel_rfl)
  exact ⟨i, _, h1, h2, h3, h4, rfl⟩), by omega, fun _ => rfl, (fun x u hu => by simp at hu; rcases hu with rfl | rfl <;> rfl), by omega⟩
theorem roK : Ro Tryd.prog 36 44 3 40 kcs := ⟨Tryd.underlying36, (by
  obtain ⟨i, h1, h2, h3, h4⟩ := info_parts (show (Tryd.prog.info? 44).map (fun i => (i.zero, i.size, i.bytes)) = some (some (.agg #[.string ByteArray.empty, .string ByteArray.empty, .int .i64 0]), 3, 40) by kernel_rfl)
  exact ⟨i, _, h1, h2, h3, h4, rfl⟩), by omega, fun _ => rfl, (fun x u hu => by simp at hu; rcases hu with rfl | rfl | rfl <;> rfl), by omega⟩
theorem roT : Ro Tryd.prog 22 38 5 80 tcs := ⟨Tryd.underlying22, (by
  obtain ⟨i, h1, h2, h3, h4⟩ := info_parts (show (Tryd.prog.info? 38).map (fun i => (i.zero, i.size, i.bytes)) = some (some (.agg #[.string ByteArray.empty, .int .i64 0, .int .i64 0, .slice none 0 0, .slice none 0 0]), 5, 80) by kernel_rfl)
  exact ⟨i, _, h1, h2, h3, h4, rfl⟩), by omega, fun _ => rfl, (fun x u hu => by simp at hu; rcases hu with rfl | rfl | rfl | rfl | rfl <;> rfl), by omega⟩
abbrev ON (w : World) (B : Nat) (A : Option Addr) (c : Nat) (l : List Nt) : Prop := Ow 53 2 ncs w B A c l
abbrev OK (w : World) (B : Nat) (A : Option Addr) (c : Nat) (l : List Tk) : Prop := Ow 44 3 kcs w B A c l
abbrev OT (w : World) (B : Nat) (A : Option Addr) (c : Nat) (l : List Tv) : Prop := Ow 38 5 tcs w B A c l
end Go.Proofs.YtfpjkedcpnmfeaaDoor

/- A number that lies in its range. -/
namespace Go.Proofs.YtfpjkedcpnmfeaaDoor
set_option linter.unusedVariables false
set_option linter.unusedSimpArgs false
open Go.RowKit
theorem iwrap (x : Int) (n : Nat) (h : x = (n : Int)) (hn : n ≤ 9223372036854775807) : IntKind.i64.wrap x = (n : Int) ∧ wrap64 x = (n : Int) := by
  subst h
  constructor
  · rw [IntKind.wrap_i64]; omega
  · unfold wrap64; omega
end Go.Proofs.YtfpjkedcpnmfeaaDoor

/- string(b) in a region that draws its order. Nothing of the program is named here. -/
namespace Go.Proofs.YtfpjkedcpnmfeaaDoor
set_option linter.unusedVariables false
set_option linter.unusedSimpArgs false
open Go.RowKit

theorem yieldsIf_conv {P : Program} {ops : Array Oper} {S : World → Prop} {oi : Oper} {a : Act} (hw : Region.wanted oi (yielded ops a.tmps) = true) (src e dst : TypeId) (x : Operand) (ho : oi.op = .convert src dst x)
    (A : Option Addr) (n c : Nat) (l : List UInt8) (hx : a.eval x = .slice A n c) (hn : l.length = n) {B : World → Nat} (hR : ∀ w, S w → Rb w (B w) A l) (hs : P.underlying src = some (.slice e)) (he : P.underlying e = some (.int .u8)) (hd : P.underlying dst = some .string) : YieldsIf P ops S oi (.string (bs l)) a :=
  .inl ⟨hw, fun w hw' => by
    unfold execOp
    simp only [ho, hx, Sem.run_bind, str_of (hR w hw') src e dst hs he hd n c hn, Result.andThen_ok, Sem.run_pure, bs]⟩
end Go.Proofs.YtfpjkedcpnmfeaaDoor

/- A region that draws its order, inside a round of a range over a function, at the widest fence: it goes as outside. Nothing of the program is named here. -/
namespace Go.Proofs.YtfpjkedcpnmfeaaDoor
set_option linter.unusedVariables false
set_option linter.unusedSimpArgs false

section
variable {P : Program} {ops : Array Oper} {Q : Exit → Act → World → Prop} {md : Region.Mode} {lp n : Nat}

theorem callsIn_round {m : Nat} {f : FuncId} {args : Array Value} {w : World} {R : Ending → World → Prop} (h : Calls P f args w R) : CallsIn (Fence.wide.inRound lp) m P f args w R :=
  ⟨trivial, fun cs _ => let ⟨e, w', fr, r, s, x⟩ := h cs; ⟨e, w', fr, r, comesIn_wide.2 s, x⟩⟩
theorem rowsIn_round {m : Nat} {row : String} {args : Array Value} {w : World} {R : Value → World → Prop} (h : Rows P row args w R) : RowsIn (Fence.wide.inRound lp) m P row args w R :=
  fun c cs _ => let ⟨v, w', r, s⟩ := h c cs; ⟨v, w', r, stepsIn_wide.2 s⟩

def noDefer (ops : Array Oper) : Bool := ops.toList.all fun o => match o.op with | .defer _ => false | _ => true
theorem noDefer_at (h : noDefer ops = true) {i : Nat} {o : Oper} (ho : ops[i]? = some o) (c : Call) : o.op ≠ .defer c := by
  intro e
  have hm : o ∈ ops.toList := by
    have : ops.toList[i]? = some o := by rw [Array.getElem?_toList]; exact ho
    exact List.mem_of_getElem? this
  have := List.all_eq_true.1 h o hm
  rw [e] at this
  cases this

theorem wpOpIn_of (hlo : LetsOut Q → False) (hnd : noDefer ops = true) {i : Nat} {a : Act} {w : World} {K K' : Act → World → Prop} (hK : ∀ a w, K a w → K' a w) (h : wpOp P ops Q i K a w) : wpOpIn (Fence.wide.inRound lp) n P ops Q i K' a w := by
  unfold wpOp at h
  unfold wpOpIn
  cases ho : ops[i]? with
  | none => rw [ho] at h; exact hK _ _ h
  | some o =>
    rw [ho] at h
    simp only at h ⊢
    split
    · rename_i hw
      simp only [hw, if_true] at h
      rcases h with h | ⟨_, h⟩
      · unfold Oper.wp at h
        refine ⟨fun _ _ => trivial, ?_⟩
        rw [Oper.semAt_eq _ _ _ (noDefer_at hnd ho)]
        generalize (execOp a.eval o).run P w = r at *
        cases r with
        | ok x w' =>
          cases x <;> simp only [Oper.upon, Oper.uponIn] at h ⊢ <;>
            first
              | exact hK _ _ h
              | exact ⟨fun hh => absurd hh (by simp [Fence.wide, Fence.inRound]), (callsIn_round h).mono (fun e w'' he => by cases e <;> first | exact hK _ _ he | exact he)⟩
              | exact ⟨fun hh => absurd hh (by simp [Fence.wide, Fence.inRound]), (rowsIn_round h).mono (fun _ _ he => hK _ _ he)⟩
              | exact h.elim
        | halt x w' => cases x <;> simp only [Oper.upon, Oper.uponIn] at h ⊢ <;> exact h
      · exact (hlo h).elim
    · rename_i hw
      simp only [hw] at h
      exact ⟨fun _ _ => trivial, hK _ _ h⟩
theorem wpAnyIn_of (hlo : LetsOut Q → False) (hnd : noDefer ops = true) : ∀ (fuel : Nat) (listed : Array Bool) (a : Act) (w : World), wpAny P md ops Q fuel listed a w → wpAnyIn (Fence.wide.inRound lp) n P md ops Q fuel listed a w
  | 0, _, _, _, h => h
  | fuel + 1, _, _, _, h => ⟨h.1, fun i hi => wpOpIn_of hlo hnd (fun a' w' h' => wpAnyIn_of hlo hnd fuel _ a' w' h') (h.2 i hi)⟩

/-- The beginning of such a region, inside a round. -/
theorem wpIn_region_held_drew {S : World → Prop} {id : Nat} {a : Act} {w : World} (hm : P.follows .mixedOrders = true) (hnd : noDefer ops = true) (hlo : LetsOut Q → False) (hS : S w.drew)
    (h : S w.drew → wpAnyH P .any ops Q S ops.size (Array.replicate ops.size false) a w.drew) : (Code.region id ops true).wpIn (Fence.wide.inRound lp) n P Q a w :=
  wpIn_region_any hm (wpAnyIn_of hlo hnd _ _ _ _ (wpAny_of_held _ _ _ _ (h hS)))
end
end Go.Proofs.YtfpjkedcpnmfeaaDoor

/- Parts of a slice of bytes; a slice expression in a region that draws its order, and in one that does not. -/
namespace Go.Proofs.YtfpjkedcpnmfeaaDoor
set_option linter.unusedVariables false
set_option linter.unusedSimpArgs false
open Go.RowKit

theorem yieldsIf_slice {P : Program} {ops : Array Oper} {S : World → Prop} {oi : Oper} {a : Act} (hw : Region.wanted oi (yielded ops a.tmps) = true) (t : TypeId) (x : Operand) (lo hi : Option Operand) (ho : oi.op = .slice t x lo hi none) (v : Value)
    (h : ∀ w, (Instr.sliceAt t (a.eval x) (lo.map a.eval) (hi.map a.eval) none).run P w = .ok v w) : YieldsIf P ops S oi v a :=
  .inl ⟨hw, fun w _ => by
    unfold execOp
    simp only [ho, Sem.run_bind, Option.map_none, h w, Result.andThen_ok, Sem.run_pure]⟩

/-- Where b[lo:] lies. -/
def tailA (A : Option Addr) (c lo : Nat) : Option Addr := if c = lo then A else A.map (·.add (lo * 1))
theorem tailA_none (A : Option Addr) (c lo : Nat) (h : tailA A c lo = none) : A = none := by
  unfold tailA at h
  split at h
  · exact h
  · cases A with
    | none => rfl
    | some a => cases h
theorem Rb.tail {w : World} {B : Nat} {A : Option Addr} {l : List UInt8} {c : Nat} (h : Rb w B A l) (lo : Nat) (hc : l.length ≤ c) : Rb w B (tailA A c lo) (l.drop lo) := by
  by_cases h0 : l.drop lo = []
  · left; exact h0
  · have hlo : lo < l.length := by
      rcases Nat.lt_or_ge lo l.length with h1 | h1
      · exact h1
      · exact absurd (List.drop_of_length_le h1) h0
    rcases h with h | ⟨b, o, e, hb, hcl⟩
    · rw [h] at hlo; simp at hlo
    · subst e
      have e2 : tailA (some ⟨b, o, none⟩) c lo = some ⟨b, o + lo, none⟩ := by
        unfold tailA
        rw [if_neg (by omega)]
        simp only [Option.map_some, Nat.mul_one, Addr.add]
        split <;> simp_all
      rw [e2]
      refine .inr ⟨b, o + lo, rfl, hb, fun i hi => ?_⟩
      have hi' : lo + i < l.length := by rw [List.length_drop] at hi; omega
      have := hcl (lo + i) hi'
      rw [← Nat.add_assoc] at this
      rw [this, List.getElem_drop]
theorem Rb.front {w : World} {B : Nat} {A : Option Addr} {l : List UInt8} (h : Rb w B A l) (n : Nat) : Rb w B A (l.take n) := by
  rcases h with h | ⟨b, o, e, hb, hc⟩
  · left; rw [h]; simp
  · refine .inr ⟨b, o, e, hb, fun i hi => ?_⟩
    have hi' : i < l.length := by rw [List.length_take] at hi; omega
    rw [hc i hi', List.getElem_take]
theorem slice_fr (A : Option Addr) (n c lo : Nat) (h : lo ≤ n) (hc : n ≤ c) (u : World) : (Instr.sliceAt 47 (.slice A n c) (some (.int .i64 (lo : Int))) none none).run Tryd.prog u = .ok (.slice (tailA A c lo) (n - lo) (c - lo)) u := by
  have h1 : (lo : Int) ≤ (n : Int) := by omega
  unfold tailA
  go_simp
/-- b[lo:] in a region that draws nothing. -/
theorem wpList_from {P : Program} {ops : Array Oper} {rest : List Oper} {o : Oper} {a : Act} {Q : Exit → Act → World → Prop} {w : World} (hgd : o.guard = none) (t : TypeId) (x lo : Operand) (ho : o.op = .slice t x (some lo) none none) (vx vl v : Value) (hx : a.eval x = vx) (hl : a.eval lo = vl)
    (hr : (Instr.sliceAt t vx (some vl) none none).run P w = .ok v w) (h : wpList P ops Q rest (a.put o.dst v) w) : wpList P ops Q (o :: rest) a w :=
  wpList_plain hgd fun _ hK => by
    unfold Oper.wp execOp
    simp only [ho, Option.map_some, Option.map_none, hx, hl, Sem.run_bind, hr, Result.andThen_ok, Sem.run_pure]
    exact hK _ _ h
end Go.Proofs.YtfpjkedcpnmfeaaDoor

/- Small words for walks over slices of bytes. -/
namespace Go.Proofs.YtfpjkedcpnmfeaaDoor
set_option linter.unusedVariables false
set_option linter.unusedSimpArgs false
open Go.RowKit

theorem Rb.on {u u' : World} {A : Option Addr} {l : List UInt8} (h : Rb u u.heap.size A l) (hb : Below u.heap.size u u') : Rb u' u'.heap.size A l := (h.below hb (Nat.le_refl _)).more hb.size
/-- b[:hi]. -/
theorem slice_to (A : Option Addr) (n c hi : Nat) (h : hi ≤ n) (hc : n ≤ c) (u : World) : (Instr.sliceAt 47 (.slice A n c) none (some (.int .i64 (hi : Int))) none).run Tryd.prog u = .ok (.slice A hi c) u := by
  have h1 : (hi : Int) ≤ (n : Int) := by omega
  have h2 : (hi : Int) ≤ (c : Int) := by omega
  go_simp
/-- string(b), where an operation's guard is met, in a region that draws nothing. -/
theorem wpList_conv {P : Program} {ops : Array Oper} {Q : Exit → Act → World → Prop} {a : Act} {w : World} {rest : List Oper} {o : Oper} (hw : Region.wanted o (yielded ops a.tmps) = true) (src e dst : TypeId) (x : Operand) (ho : o.op = .convert src dst x)
    (A : Option Addr) (n c : Nat) (l : List UInt8) (hx : a.eval x = .slice A n c) (hn : l.length = n) {B : Nat} (hR : Rb w B A l) (hs : P.underlying src = some (.slice e)) (he : P.underlying e = some (.int .u8)) (hd : P.underlying dst = some .string)
    (h : wpList P ops Q rest (a.put o.dst (.string (bs l))) w) : wpList P ops Q (o :: rest) a w :=
  wpList_wanted hw fun K hK => by
    have h1 := str_of (P := P) hR src e dst hs he hd n c hn
    unfold Oper.wp execOp
    simp only [ho, hx, Sem.run_bind, h1, Result.andThen_ok, Sem.run_pure]
    exact hK _ _ h
/-- b[lo:lo + many]. -/
theorem slice_mid (A : Option Addr) (n c k q : Nat) (h : k + q ≤ n) (hc : n ≤ c) (u : World) : (Instr.sliceAt 47 (.slice A n c) (some (.int .i64 (k : Int))) (some (.int .i64 ((k : Int) + (q : Int)))) none).run Tryd.prog u = .ok (.slice (tailA A c k) q (c - k)) u := by
  have e : (k : Int) + (q : Int) = ((k + q : Nat) : Int) := by omega
  have h1 : (k : Int) ≤ ((k + q : Nat) : Int) := by omega
  have h2 : ((k + q : Nat) : Int) ≤ (c : Int) := by omega
  have e2 : k + q - k = q := by omega
  rw [e]
  generalize hj : k + q = j at h1 h2 e2 ⊢
  unfold tailA
  go_simp
/-- b[lo:hi] in a region that draws nothing. -/
theorem wpList_two {P : Program} {ops : Array Oper} {rest : List Oper} {o : Oper} {a : Act} {Q : Exit → Act → World → Prop} {w : World} (hgd : o.guard = none) (t : TypeId) (x lo hi : Operand) (ho : o.op = .slice t x (some lo) (some hi) none) (vx vl vh v : Value) (hx : a.eval x = vx) (hl : a.eval lo = vl) (hh : a.eval hi = vh)
    (hr : (Instr.sliceAt t vx (some vl) (some vh) none).run P w = .ok v w) (h : wpList P ops Q rest (a.put o.dst v) w) : wpList P ops Q (o :: rest) a w :=
  wpList_plain hgd fun _ hK => by
    unfold Oper.wp execOp
    simp only [ho, Option.map_some, Option.map_none, hx, hl, hh, Sem.run_bind, hr, Result.andThen_ok, Sem.run_pure]
    exact hK _ _ h
/-- append of bytes, the new length being the sum. -/
theorem wp_app_n {P : Program} {ops : Array Oper} {rest : List Oper} {o : Oper} {a : Act} {Q : Exit → Act → World → Prop} {w : World} (hgd : o.guard = none) (s x : Operand) (t e : TypeId)
    (ho : o.op = .call { callee := .builtin .append, args := #[s, x], argTypes := #[t, t] }) (ht : P.underlying t = some (.slice e))
    (hi : (P.info? e).map (fun i => (i.zero, i.size, i.bytes)) = some (some (.int .u8 0), 1, 1)) (B : Nat) (l : List UInt8) (A : Option Addr) (n c : Nat) (hs : a.eval s = .slice A n c) (hn : l.length = n) (hown : OB w B e A c l)
    (k : List UInt8) (A' : Option Addr) (m c' B' : Nat) (hx : a.eval x = .slice A' m c') (hm : k.length = m) (hnil : A' = none → m = 0 ∧ c' = 0) (hR : Rb w B' A' k)
    (hlen : n + m ≤ 140737488355328) (hbase : B ≤ w.heap.size) (s' : Nat) (hsum : n + m = s')
    (h : ∀ A2 c2 w', OB w' B e A2 c2 (l ++ k) → w.grownBy w' (Value.slice A n c).ownBlock → Below B w w' → wpList P ops Q rest (a.put o.dst (.slice A2 s' c2)) w') : wpList P ops Q (o :: rest) a w :=
  wp_app_any hgd s x t e ho ht hi B l A n c hs hn hown k A' m c' B' hx hm hnil hR (by rw [hn, hm]; exact hlen) hbase (fun A2 c2 w' k1 k2 k3 => by rw [List.length_append, hn, hm, hsum]; exact h A2 c2 w' k1 k2 k3)
theorem OB.nil_ {w : World} {B : Nat} {e : TypeId} {A : Option Addr} {c : Nat} {l : List UInt8} (h : OB w B e A c l) (hA : A = none) : l.length = 0 ∧ c = 0 := by
  rcases h.2 with ⟨hv, h0⟩ | ⟨g, cap, cur, hv, _⟩
  · injection hv with _ _ h3
    exact ⟨h0, h3⟩
  · rw [hA] at hv; cases hv
theorem tail_nil {A : Option Addr} {n c k q : Nat} (h : A = none → n = 0 ∧ c = 0) (hq : k + q ≤ n) : tailA A c k = none → q = 0 ∧ c - k = 0 := fun e => by
  obtain ⟨h1, h2⟩ := h (tailA_none A c k e)
  omega
/-- b[:hi] in a region that draws nothing. -/
theorem wpList_to {P : Program} {ops : Array Oper} {rest : List Oper} {o : Oper} {a : Act} {Q : Exit → Act → World → Prop} {w : World} (hgd : o.guard = none) (t : TypeId) (x hi : Operand) (ho : o.op = .slice t x none (some hi) none) (vx vh v : Value) (hx : a.eval x = vx) (hh : a.eval hi = vh)
    (hr : (Instr.sliceAt t vx none (some vh) none).run P w = .ok v w) (h : wpList P ops Q rest (a.put o.dst v) w) : wpList P ops Q (o :: rest) a w :=
  wpList_plain hgd fun _ hK => by
    unfold Oper.wp execOp
    simp only [ho, Option.map_some, Option.map_none, hx, hh, Sem.run_bind, hr, Result.andThen_ok, Sem.run_pure]
    exact hK _ _ h
/-- min of two numbers, as one operation. -/
theorem op_min {P : Program} {o : Oper} {a : Act} {K : Act → World → Prop} {Q : Exit → Act → World → Prop} {w : World} (x y : Operand) (t : TypeId) (ho : o.op = .call { callee := .builtin .min, args := #[x, y], argTypes := #[t, t] }) (u v m : Int) (hx : a.eval x = .int .i64 u) (hy : a.eval y = .int .i64 v) (hm : min u v = m)
    (h : K (a.put o.dst (.int .i64 m)) w) : o.wp P a w K Q := by
  subst hm
  have e : (if v < u then v else u) = min u v := by split <;> omega
  have hr : (Builtin.min_ #[t, t] o.type #[.int .i64 u, .int .i64 v]).run P w = .ok (.int .i64 (min u v)) w := by rw [← e]; simp [Builtin.min_, Builtin.min2]
  unfold Oper.wp execOp
  simp only [ho, resolve, invoke, builtin, Sem.run_bind, Sem.run_pure, Result.andThen_ok, List.map_toArray, List.map_cons, List.map_nil, hx, hy, hr]
  exact h
/-- max of two numbers, as one operation. -/
theorem op_max {P : Program} {o : Oper} {a : Act} {K : Act → World → Prop} {Q : Exit → Act → World → Prop} {w : World} (x y : Operand) (t : TypeId) (ho : o.op = .call { callee := .builtin .max, args := #[x, y], argTypes := #[t, t] }) (u v m : Int) (hx : a.eval x = .int .i64 u) (hy : a.eval y = .int .i64 v) (hm : max u v = m)
    (h : K (a.put o.dst (.int .i64 m)) w) : o.wp P a w K Q := by
  subst hm
  have e : (if v > u then v else u) = max u v := by split <;> omega
  have hr : (Builtin.max_ #[t, t] o.type #[.int .i64 u, .int .i64 v]).run P w = .ok (.int .i64 (max u v)) w := by rw [← e]; simp [Builtin.max_, Builtin.max2]
  unfold Oper.wp execOp
  simp only [ho, resolve, invoke, builtin, Sem.run_bind, Sem.run_pure, Result.andThen_ok, List.map_toArray, List.map_cons, List.map_nil, hx, hy, hr]
  exact h
/-- The same in a region that draws nothing. -/
theorem wpList_min {P : Program} {ops : Array Oper} {rest : List Oper} {o : Oper} {a : Act} {Q : Exit → Act → World → Prop} {w : World} (hgd : o.guard = none) (x y : Operand) (t : TypeId) (ho : o.op = .call { callee := .builtin .min, args := #[x, y], argTypes := #[t, t] }) (u v m : Int) (hx : a.eval x = .int .i64 u) (hy : a.eval y = .int .i64 v) (hm : min u v = m)
    (h : wpList P ops Q rest (a.put o.dst (.int .i64 m)) w) : wpList P ops Q (o :: rest) a w :=
  wpList_plain hgd fun K hK => op_min x y t ho u v m hx hy hm (hK _ _ h)
theorem wpList_max {P : Program} {ops : Array Oper} {rest : List Oper} {o : Oper} {a : Act} {Q : Exit → Act → World → Prop} {w : World} (hgd : o.guard = none) (x y : Operand) (t : TypeId) (ho : o.op = .call { callee := .builtin .max, args := #[x, y], argTypes := #[t, t] }) (u v m : Int) (hx : a.eval x = .int .i64 u) (hy : a.eval y = .int .i64 v) (hm : max u v = m)
    (h : wpList P ops Q rest (a.put o.dst (.int .i64 m)) w) : wpList P ops Q (o :: rest) a w :=
  wpList_plain hgd fun K hK => op_max x y t ho u v m hx hy hm (hK _ _ h)
end Go.Proofs.YtfpjkedcpnmfeaaDoor

/- One text behind the other, as one operation. Nothing of the program is named here. -/
namespace Go.Proofs.YtfpjkedcpnmfeaaDoor
set_option linter.unusedVariables false
set_option linter.unusedSimpArgs false
open Go.RowKit

theorem bs_cat (a b : List UInt8) : bs a ++ bs b = bs (a ++ b) := ByteArray.mk_append_mk a b
theorem run_cat {P : Program} (w : World) (t : TypeId) (l k : List UInt8) (h : l.length + k.length ≤ 9223372036854775807) : (binOp .add t (.string (bs l)) (.string (bs k))).run P w = .ok (.string (bs (l ++ k))) w := by
  have h1 := run_string_add_sum (P := P) w (bs l) (bs k) (by rw [bs_size, bs_size]; exact h)
  rw [bs_cat] at h1
  simp [binOp, h1]

theorem op_cat {P : Program} {o : Oper} {a : Act} {K : Act → World → Prop} {Q : Exit → Act → World → Prop} {w : World} (x y : Operand) (t t2 : TypeId) (ho : o.op = .binOp .add t x y t2) (l k m : List UInt8) (hx : a.eval x = .string (bs l)) (hy : a.eval y = .string (bs k)) (hlen : l.length + k.length ≤ 9223372036854775807) (hm : l ++ k = m)
    (h : K (a.put o.dst (.string (bs m))) w) : o.wp P a w K Q := by
  subst hm
  have hr := run_cat (P := P) w t l k hlen
  unfold Oper.wp execOp
  simp only [ho, hx, hy, eqGuard, Bool.not_false, if_true, Sem.run_bind, Sem.run_pure, Result.andThen_ok, hr]
  exact h
theorem wpList_cat {P : Program} {ops : Array Oper} {Q : Exit → Act → World → Prop} {a : Act} {w : World} {rest : List Oper} {o : Oper} (hw : Region.wanted o (yielded ops a.tmps) = true) (x y : Operand) (t t2 : TypeId) (ho : o.op = .binOp .add t x y t2) (l k m : List UInt8) (hx : a.eval x = .string (bs l)) (hy : a.eval y = .string (bs k)) (hlen : l.length + k.length ≤ 9223372036854775807) (hm : l ++ k = m)
    (h : wpList P ops Q rest (a.put o.dst (.string (bs m))) w) : wpList P ops Q (o :: rest) a w :=
  wpList_wanted hw fun K hK => op_cat x y t t2 ho l k m hx hy hlen hm (hK _ _ h)
end Go.Proofs.YtfpjkedcpnmfeaaDoor

/- A text as bytes anew. -/
namespace Go.Proofs.YtfpjkedcpnmfeaaDoor
set_option linter.unusedVariables false
set_option linter.unusedSimpArgs false
open Go.RowKit

theorem conv_back (B : ByteArray) (hB : B.size ≤ 1099511627776) (w : World) : ∃ (cap : Nat) (ob : Obj), (convert 9 47 (.string B)).run Tryd.prog w = .ok (.slice (some ⟨w.heap.size, 0, none⟩) B.size cap) (w.drew.alloc ob) ∧ B.size ≤ cap ∧ cap ≤ 9223372036854775807 ∧ Rb (w.drew.alloc ob) (w.drew.alloc ob).heap.size (some ⟨w.heap.size, 0, none⟩) B.data.toList := by
  refine ⟨_, _, run_bytes_of_string w 9 47 5 B Tryd.underlying9 Tryd.underlying47 Tryd.underlying5, grownCap_ge _ _ _ _, ?_, ?_⟩
  · have h := grownCap_le_maxLen w B.size 0 5 (by unfold maxLen; omega)
    unfold maxLen at h
    omega
  · refine .inr ⟨w.heap.size, 0, rfl, by show _ < (w.heap.push _).size; rw [Array.size_push]; omega, fun i hi => ?_⟩
    have hi' : i < B.data.size := by simpa using hi
    refine (cell_of_row (w.drew.alloc _) w.heap.size (0 + i) _ _ _ (heap_alloc_new w.drew _)).trans ?_
    rw [Nat.zero_add, bytesRow_at B _ i hi']
    rfl
end Go.Proofs.YtfpjkedcpnmfeaaDoor

/- A configuration that came in, by value: from the row's reading to 'RC', with bounds out of the row's reach. -/
namespace Go.Proofs.YtfpjkedcpnmfeaaDoor
set_option linter.unusedVariables false
set_option linter.unusedSimpArgs false
open Go.ChangeShapes Go.WideShapes Go.ChangeAt Go.RowKit Go.Deep

section
variable {H : Type} {enc : TypeId × Value → H} {P : Program} {W : World} {t e : TypeId}

/-- Every weight of it is within the reach. -/
def Wt (P : Program) (t : TypeId) (d : DataW H) : Prop := ∀ n ∈ d.weights P t, n ≤ reachBytes
theorem wt_all : ∀ (l : List (DataW H)), (∀ n ∈ DataW.weightsAll P e l, n ≤ reachBytes) → ∀ x ∈ l, Wt P e x
  | [], _, _, h => by cases h
  | d :: r, h, x, hx => by
    simp only [DataW.weightsAll, List.mem_append] at h
    rcases List.mem_cons.1 hx with hx | hx
    · subst hx; exact fun n hn => h n (.inl hn)
    · exact wt_all r (fun n hn => h n (.inr hn)) x hx
theorem Wt.slice {el sp : List (DataW H)} (hu : P.underlying t = some (.slice e)) (h : Wt P t (.slice el sp)) : el.length * P.bytesOf e ≤ reachBytes ∧ ∀ x ∈ el, Wt P e x := by
  unfold Wt at h
  simp only [DataW.weights, hu] at h
  refine ⟨?_, wt_all el fun n hn => h n (by simp [hn])⟩
  have := h ((el.length + sp.length) * P.bytesOf e) (by simp)
  exact Nat.le_trans (Nat.mul_le_mul_right _ (Nat.le_add_right _ _)) this
theorem Wt.part {fs : Array Field} {parts : List (DataW H)} (hu : P.underlying t = some (.struct fs)) (h : Wt P t (.agg parts)) {j : Nat} {f : Field} {d : DataW H} (hf : fs[j]? = some f) (hd : parts[j]? = some d) : Wt P f.type d := fun n hn => by
  unfold Wt at h
  simp only [DataW.weights, hu] at h
  exact h n (DataW.weights_mem_each (j := j) (t := f.type) (d := d) (by simp [hf]) hd n hn)

theorem open_each {fs : Array Field} {A : Option Addr} {n c k : Nat} {y : DataW H × List MemPlace} {fuel : Nat} (ht : P.underlying t = some (.slice e)) (he : P.underlying e = some (.struct fs)) (ce : P.cellsOf e = k) (h1 : 1 ≤ P.bytesOf e)
    (h : DataW.trod enc P W 0 (fun _ => true) true fuel t [.slice A n c] = some y) (hw : Wt P t y.1) :
    (A = none ∧ n = 0 ∧ c = 0) ∨ ∃ a, A = some a ∧ n ≤ c ∧ c ≤ maxLen ∧ n ≤ reachBytes ∧ ∀ i, i < n → ∃ cs fuel' z, cs.length = k ∧ (∀ j, (hj : j < cs.length) → W.cell? (a.add (i * k + j)) = some cs[j]) ∧ DataW.trod enc P W 0 (fun _ => true) true fuel' e cs = some z ∧ Wt P e z.1 := by
  rcases open_slice ht h with ⟨hcs, _⟩ | ⟨a, len, cap, m, k', D, Pl, hcs, _, hl, hm, hmm, hy, hx⟩
  · left
    simpa using hcs
  · right
    simp only [List.cons.injEq, Value.slice.injEq, and_true] at hcs
    obtain ⟨rfl, rfl, rfl⟩ := hcs
    simp only [if_true] at hmm
    subst hmm
    subst hy
    obtain ⟨w1, w2⟩ := Wt.slice ht hw
    rw [List.length_map, List.length_range] at w1
    refine ⟨a, rfl, hl, hm, Nat.le_trans (Nat.le_mul_of_pos_right _ h1) w1, fun i hi => ?_⟩
    obtain ⟨cs', g1, g2⟩ := hx i (by omega)
    rw [ce] at g1
    obtain ⟨_, hlen, hcell⟩ := World.cells?_some g1
    refine ⟨cs', k', _, hlen, fun j hj => ?_, g2, w2 _ (List.mem_map.2 ⟨i, List.mem_range.2 hi, rfl⟩)⟩
    have := hcell j (by omega)
    rw [Go.Deep.add_add] at this
    rw [this]
    exact List.getElem?_eq_getElem hj
theorem open_field {fs : Array Field} {cs : List Value} {y : DataW H × List MemPlace} {fuel : Nat} (he : P.underlying e = some (.struct fs)) (hone : oneCellFields P fs = true) (h : DataW.trod enc P W 0 (fun _ => true) true fuel e cs = some y) (hw : Wt P e y.1)
    (i : Nat) (f : Field) (hf : fs[i]? = some f) (v : Value) (hv : cs[i]? = some v) : ∃ n z, DataW.trod enc P W 0 (fun _ => true) true n f.type [v] = some z ∧ Wt P f.type z.1 := by
  obtain ⟨xs, n, _, hx, _, hlen, hg⟩ := DataW.trod_struct he h
  subst hx
  obtain ⟨ho, hk⟩ := hone_of hone i f hf
  have hi : i < fs.size := (Array.getElem?_eq_some_iff.1 hf).1
  have h1 := hg i f hf
  have hil : i < cs.length := (List.getElem?_eq_some_iff.1 hv).1
  have e1 : (cs.drop i).take 1 = [v] := by
    rw [List.drop_eq_getElem_cons hil]
    have : cs[i] = v := (List.getElem?_eq_some_iff.1 hv).2
    rw [this]; rfl
  rw [ho, hk, e1] at h1
  refine ⟨n, xs[i]'(by omega), h1.trans (List.getElem?_eq_getElem (by omega)), Wt.part he hw hf ?_⟩
  rw [List.getElem?_map, List.getElem?_eq_getElem (by omega)]; rfl
theorem open_str {v : Value} {n : Nat} {z : DataW H × List MemPlace} (hu : P.underlying t = some .string) (h : DataW.trod enc P W 0 (fun _ => true) true n t [v] = some z) (hw : Wt P t z.1) : ∃ s : ByteArray, v = .string s ∧ s.size ≤ 140737488355328 := by
  obtain ⟨s, q, hz, _⟩ := DataW.trod_string hu h
  refine ⟨s, by simpa using q, ?_⟩
  rw [hz] at hw
  have h1 : s.data.toList.length ≤ reachBytes := hw _ (by simp [DataW.weights])
  have h2 : reachBytes < 140737488355328 := reachBytes_lt
  have h3 : s.data.toList.length = s.size := rfl
  omega
theorem open_num {v : Value} {n : Nat} {k : IntKind} {z : DataW H × List MemPlace} (hu : P.underlying t = some (.int k)) (h : DataW.trod enc P W 0 (fun _ => true) true n t [v] = some z) : ∃ a : Int, v = .int k a ∧ (Lit.int k a).wf = true := by
  obtain ⟨a, q, _, w⟩ := DataW.trod_int hu h
  exact ⟨a, by simpa using q, w⟩
theorem open_slice_of {v : Value} {n : Nat} {z : DataW H × List MemPlace} (hu : P.underlying t = some (.slice e)) (h : DataW.trod enc P W 0 (fun _ => true) true n t [v] = some z) : ∃ A m c, v = .slice A m c := by
  rcases open_slice hu h with ⟨hcs, _⟩ | ⟨a, len, cap, m, k', D, Pl, hcs, _⟩
  · exact ⟨none, 0, 0, by simpa using hcs⟩
  · exact ⟨some a, len, cap, by simpa using hcs⟩
end

theorem lit_u32 {a : Int} (h : (Lit.int .u32 a).wf = true) : 0 ≤ a ∧ a < 4294967296 := by
  have hmin : IntKind.u32.min = 0 := by decide
  have hmax : IntKind.u32.max = 4294967295 := by decide
  simp only [Lit.wf, Bool.and_eq_true, decide_eq_true_eq, hmin, hmax] at h
  omega
/-- The rows of a slice, out of what each place reads as. -/
theorem rw_of {β : Type} [Inhabited β] {W : World} {k : Nat} (hk : 0 < k) {f : β → Array Value} {A : Option Addr} {n c : Nat} {p : β → Prop} {R : Nat}
    (h : (A = none ∧ n = 0 ∧ c = 0) ∨ ∃ a, A = some a ∧ n ≤ c ∧ c ≤ maxLen ∧ n ≤ R ∧ ∀ i, i < n → ∃ x : β, p x ∧ ∀ j, j < k → W.cell? (a.add (i * k + j)) = (f x)[j]?)
    (hf : ∀ x, (f x).size = k) : ∃ l : List β, l.length = n ∧ Rw k f W A l ∧ Fit A l.length c ∧ n ≤ R ∧ ∀ x ∈ l, p x := by
  rcases h with ⟨rfl, rfl, rfl⟩ | ⟨a, rfl, hl, hm, hr, hx⟩
  · exact ⟨[], rfl, .inl rfl, ⟨by simp, by omega, fun _ => ⟨rfl, rfl⟩⟩, Nat.zero_le _, fun x hx => by cases hx⟩
  · obtain ⟨F, hF⟩ := Go.Deep.choose_lt hx
    unfold maxLen at hm
    refine ⟨(List.range n).map F, by simp, ?_, ⟨by simpa using hl, by omega, fun h => by cases h⟩, hr, fun x hx => ?_⟩
    · by_cases hn : n = 0
      · left; rw [hn]; rfl
      · right
        obtain ⟨b, o, spot⟩ := a
        obtain ⟨_, h0⟩ := hF 0 (by omega)
        have h00 := h0 0 hk
        rw [Array.getElem?_eq_getElem (by rw [hf]; exact hk)] at h00
        have hspot : spot = none := by simpa [Addr.add] using World.cell?_spot h00
        subst hspot
        refine ⟨b, o, rfl, ?_, fun i hi j hj => ?_⟩
        · have := World.block_lt_of_cell? W _ h00
          rw [add_plain] at this
          exact this
        · have hi' : i < n := by simpa using hi
          have e : ((List.range n).map F)[i] = F i := by simp
          rw [e]
          have := (hF i hi').2 j hj
          rw [add_plain] at this
          rw [Nat.add_assoc]
          exact this
    · obtain ⟨i, hi, rfl⟩ := List.mem_map.1 hx
      exact (hF i (List.mem_range.1 hi)).1

instance : Inhabited Nt := ⟨⟨0, 0⟩⟩
instance : Inhabited Tk := ⟨⟨ByteArray.empty, ByteArray.empty, 0⟩⟩
instance : Inhabited Tv := ⟨⟨⟨ByteArray.empty, 0, 0, [], []⟩, none, 0, none, 0⟩⟩

theorem net_fields : ∃ f0 f1, Tryd.prog.underlying 53 = some (.struct #[f0, f1]) ∧ f0.type = 51 ∧ f1.type = 3 ∧ oneCellFields Tryd.prog #[f0, f1] = true := ⟨_, _, Tryd.underlying53, rfl, rfl, by kernel_rfl⟩
theorem tok_fields : ∃ f0 f1 f2, Tryd.prog.underlying 44 = some (.struct #[f0, f1, f2]) ∧ f0.type = 9 ∧ f1.type = 9 ∧ f2.type = 2 ∧ oneCellFields Tryd.prog #[f0, f1, f2] = true := ⟨_, _, _, Tryd.underlying44, rfl, rfl, rfl, by kernel_rfl⟩
theorem ten_fields : ∃ f0 f1 f2 f3 f4, Tryd.prog.underlying 38 = some (.struct #[f0, f1, f2, f3, f4]) ∧ f0.type = 9 ∧ f1.type = 3 ∧ f2.type = 3 ∧ f3.type = 35 ∧ f4.type = 36 ∧ oneCellFields Tryd.prog #[f0, f1, f2, f3, f4] = true := ⟨_, _, _, _, _, Tryd.underlying38, rfl, rfl, rfl, rfl, rfl, by kernel_rfl⟩
theorem cfg_fields : ∃ f0 f1 f2 f3 f4, Tryd.prog.underlying 24 = some (.struct #[f0, f1, f2, f3, f4]) ∧ f0.type = 2 ∧ f1.type = 2 ∧ f2.type = 2 ∧ f3.type = 2 ∧ f4.type = 22 ∧ oneCellFields Tryd.prog #[f0, f1, f2, f3, f4] = true := ⟨_, _, _, _, _, Tryd.underlying24, rfl, rfl, rfl, rfl, rfl, by kernel_rfl⟩

theorem five {cs : List Value} (h : cs.length = 5) : ∃ a b c d e, cs = [a, b, c, d, e] := by
  match cs, h with
  | [a, b, c, d, e], _ => exact ⟨a, b, c, d, e, rfl⟩

section
variable {H : Type} {enc : TypeId × Value → H} {W : World}
theorem open_nets {v : Value} {n : Nat} {z : DataW H × List MemPlace} (h : DataW.trod enc Tryd.prog W 0 (fun _ => true) true n 35 [v] = some z) (hw : Wt Tryd.prog 35 z.1) :
    ∃ A c, ∃ l : List Nt, v = .slice A l.length c ∧ RN W A l ∧ Fit A l.length c ∧ l.length ≤ 140737488355328 ∧ ∀ x ∈ l, x.addr < 4294967296 := by
  obtain ⟨f0, f1, hu, t0, t1, hone⟩ := net_fields
  obtain ⟨A, m, c, rfl⟩ := open_slice_of Tryd.underlying35 h
  have h0 := open_each Tryd.underlying35 hu (k := 2) (by kernel_rfl) (of_decide_eq_true (by kernel_rfl)) h hw
  obtain ⟨l, hl, h1, h2, h3, h4⟩ := rw_of (β := Nt) (k := 2) (by omega) (f := ncs) (p := fun x => x.addr < 4294967296) (R := reachBytes) (W := W) (A := A) (n := m) (c := c) (h0.imp id fun ⟨a, e, k1, k2, k3, k4⟩ => ⟨a, e, k1, k2, k3, fun i hi => by
    obtain ⟨cs, fuel', y, q1, q2, q3, q4⟩ := k4 i hi
    match cs, q1 with
    | [v0, v1], _ =>
      obtain ⟨n0, z0, r0, _⟩ := open_field hu hone q3 q4 0 f0 rfl v0 rfl
      obtain ⟨n1, z1, r1, _⟩ := open_field hu hone q3 q4 1 f1 rfl v1 rfl
      rw [t0] at r0
      rw [t1] at r1
      obtain ⟨x0, rfl, w0⟩ := open_num Tryd.underlying51 r0
      obtain ⟨x1, rfl, w1⟩ := open_num Tryd.underlying3 r1
      have hx : 0 ≤ x0 ∧ x0 < 4294967296 := by
        have h1 := lit_u32 w0
        exact h1
      refine ⟨⟨x0.toNat, x1⟩, by show x0.toNat < _; omega, fun j hj => ?_⟩
      have e0 : ((x0.toNat : Nat) : Int) = x0 := by omega
      have := q2 j hj
      rw [this]
      match j, hj with
      | 0, _ => simp [e0]
      | 1, _ => rfl⟩) (fun _ => rfl)
  have h5 : reachBytes < 140737488355328 := reachBytes_lt
  exact ⟨A, c, l, by rw [hl], h1, h2, by omega, h4⟩
theorem open_toks {v : Value} {n : Nat} {z : DataW H × List MemPlace} (h : DataW.trod enc Tryd.prog W 0 (fun _ => true) true n 36 [v] = some z) (hw : Wt Tryd.prog 36 z.1) :
    ∃ A c, ∃ l : List Tk, v = .slice A l.length c ∧ RK W A l ∧ Fit A l.length c ∧ l.length ≤ 140737488355328 ∧ ∀ x ∈ l, x.name.size ≤ 140737488355328 ∧ x.sec.size ≤ 140737488355328 := by
  obtain ⟨f0, f1, f2, hu, t0, t1, t2, hone⟩ := tok_fields
  obtain ⟨A, m, c, rfl⟩ := open_slice_of Tryd.underlying36 h
  have h0 := open_each Tryd.underlying36 hu (k := 3) (by kernel_rfl) (of_decide_eq_true (by kernel_rfl)) h hw
  obtain ⟨l, hl, h1, h2, h3, h4⟩ := rw_of (β := Tk) (k := 3) (by omega) (f := kcs) (p := fun x => x.name.size ≤ 140737488355328 ∧ x.sec.size ≤ 140737488355328) (R := reachBytes) (W := W) (A := A) (n := m) (c := c) (h0.imp id fun ⟨a, e, k1, k2, k3, k4⟩ => ⟨a, e, k1, k2, k3, fun i hi => by
    obtain ⟨cs, fuel', y, q1, q2, q3, q4⟩ := k4 i hi
    match cs, q1 with
    | [v0, v1, v2], _ =>
      obtain ⟨n0, z0, r0, y0⟩ := open_field hu hone q3 q4 0 f0 rfl v0 rfl
      obtain ⟨n1, z1, r1, y1⟩ := open_field hu hone q3 q4 1 f1 rfl v1 rfl
      obtain ⟨n2, z2, r2, _⟩ := open_field hu hone q3 q4 2 f2 rfl v2 rfl
      rw [t0] at r0 y0
      rw [t1] at r1 y1
      rw [t2] at r2
      obtain ⟨x0, rfl, w0⟩ := open_str Tryd.underlying9 r0 y0
      obtain ⟨x1, rfl, w1⟩ := open_str Tryd.underlying9 r1 y1
      obtain ⟨x2, rfl, _⟩ := open_num Tryd.underlying2 r2
      refine ⟨⟨x0, x1, x2⟩, ⟨w0, w1⟩, fun j hj => ?_⟩
      have := q2 j hj
      rw [this]
      match j, hj with
      | 0, _ => rfl
      | 1, _ => rfl
      | 2, _ => rfl⟩) (fun _ => rfl)
  have h5 : reachBytes < 140737488355328 := reachBytes_lt
  exact ⟨A, c, l, by rw [hl], h1, h2, by omega, h4⟩
/-- A tenant that came in. -/
structure InTv (W : World) (x : Tv) : Prop where
  r : RT1 W x
  nn : x.t.nets.length ≤ 140737488355328
  nk : x.t.toks.length ≤ 140737488355328
theorem open_tens {v : Value} {n : Nat} {z : DataW H × List MemPlace} (h : DataW.trod enc Tryd.prog W 0 (fun _ => true) true n 22 [v] = some z) (hw : Wt Tryd.prog 22 z.1) :
    ∃ A c, ∃ l : List Tv, v = .slice A l.length c ∧ Rw 5 tcs W A l ∧ Fit A l.length c ∧ l.length ≤ 140737488355328 ∧ ∀ x ∈ l, InTv W x := by
  obtain ⟨f0, f1, f2, f3, f4, hu, t0, t1, t2, t3, t4, hone⟩ := ten_fields
  obtain ⟨A, m, c, rfl⟩ := open_slice_of Tryd.underlying22 h
  have h0 := open_each Tryd.underlying22 hu (k := 5) (by kernel_rfl) (of_decide_eq_true (by kernel_rfl)) h hw
  obtain ⟨l, hl, h1, h2, h3, h4⟩ := rw_of (β := Tv) (k := 5) (by omega) (f := tcs) (p := fun x => InTv W x) (R := reachBytes) (W := W) (A := A) (n := m) (c := c) (h0.imp id fun ⟨a, e, k1, k2, k3, k4⟩ => ⟨a, e, k1, k2, k3, fun i hi => by
    obtain ⟨cs, fuel', y, q1, q2, q3, q4⟩ := k4 i hi
    obtain ⟨v0, v1, v2, v3, v4, rfl⟩ := five q1
    obtain ⟨n0, z0, r0, y0⟩ := open_field hu hone q3 q4 0 f0 rfl v0 rfl
    obtain ⟨n1, z1, r1, _⟩ := open_field hu hone q3 q4 1 f1 rfl v1 rfl
    obtain ⟨n2, z2, r2, _⟩ := open_field hu hone q3 q4 2 f2 rfl v2 rfl
    obtain ⟨n3, z3, r3, y3⟩ := open_field hu hone q3 q4 3 f3 rfl v3 rfl
    obtain ⟨n4, z4, r4, y4⟩ := open_field hu hone q3 q4 4 f4 rfl v4 rfl
    rw [t0] at r0 y0
    rw [t1] at r1
    rw [t2] at r2
    rw [t3] at r3 y3
    rw [t4] at r4 y4
    obtain ⟨x0, rfl, w0⟩ := open_str Tryd.underlying9 r0 y0
    obtain ⟨x1, rfl, _⟩ := open_num Tryd.underlying3 r1
    obtain ⟨x2, rfl, _⟩ := open_num Tryd.underlying3 r2
    obtain ⟨An, cn, ln, rfl, b1, b2, b3, b4⟩ := open_nets r3 y3
    obtain ⟨Ak, ck, lk, rfl, d1, d2, d3, d4⟩ := open_toks r4 y4
    refine ⟨⟨⟨x0, x1, x2, ln, lk⟩, An, cn, Ak, ck⟩, ⟨⟨b1, d1, b2, d2, b4, w0, d4⟩, b3, d3⟩, fun j hj => ?_⟩
    have := q2 j hj
    rw [this]
    match j, hj with
    | 0, _ => rfl
    | 1, _ => rfl
    | 2, _ => rfl
    | 3, _ => rfl
    | 4, _ => rfl⟩) (fun _ => rfl)
  have h5 : reachBytes < 140737488355328 := reachBytes_lt
  exact ⟨A, c, l, by rw [hl], h1, h2, by omega, h4⟩
end
/-- A configuration that came in. -/
structure InCf (W : World) (x : Cv) : Prop where
  rc : RC W x
  n : x.ts.length ≤ 140737488355328
  each : ∀ y ∈ x.ts, InTv W y

set_option maxRecDepth 100000 in
theorem open_cfg {H : Type} {enc : TypeId × Value → H} {W : World} {r : Reach} {b0 : Nat} {v : Value} {d : DataW H} {p : List MemPlace} {ts : List TypeId} {ds : List (DataW H)} {j : Nat} (hv : Value.okWide Tryd.prog W r b0 24 v) (h : DataW.Trod enc Tryd.prog W 0 (fun _ => true) true 24 v d p)
    (hz : (DataW.weightsEach Tryd.prog ts ds).all (· ≤ reachBytes) = true) (hj : ts[j]? = some 24) (hd : ds[j]? = some d) : ∃ x : Cv, v = .agg (ccs x) ∧ InCf W x := by
  obtain ⟨f0, f1, f2, f3, f4, hu, t0, t1, t2, t3, t4, hone⟩ := cfg_fields
  obtain ⟨cs, rfl, hsz⟩ := okWide_struct hu hv
  have hsz5 : cs.toList.length = 5 := by rw [Array.length_toList, hsz]; exact (show Tryd.prog.cellsOf 24 = 5 by kernel_rfl)
  obtain ⟨v0, v1, v2, v3, v4, hcs⟩ := five hsz5
  have hcs' : cs = #[v0, v1, v2, v3, v4] := by rw [← hcs]
  subst hcs'
  obtain ⟨fuel, hfu⟩ := h
  have hw : Wt Tryd.prog 24 d := fun n hn => by
    have := List.all_eq_true.1 hz _ (DataW.weights_mem_each hj hd n hn)
    simpa using this
  have hfu' : DataW.trod enc Tryd.prog W 0 (fun _ => true) true fuel 24 [v0, v1, v2, v3, v4] = some (d, p) := hfu
  obtain ⟨n0, z0, r0, _⟩ := open_field hu hone hfu' hw 0 f0 rfl v0 rfl
  obtain ⟨n1, z1, r1, _⟩ := open_field hu hone hfu' hw 1 f1 rfl v1 rfl
  obtain ⟨n2, z2, r2, _⟩ := open_field hu hone hfu' hw 2 f2 rfl v2 rfl
  obtain ⟨n3, z3, r3, _⟩ := open_field hu hone hfu' hw 3 f3 rfl v3 rfl
  obtain ⟨n4, z4, r4, y4⟩ := open_field hu hone hfu' hw 4 f4 rfl v4 rfl
  rw [t0] at r0
  rw [t1] at r1
  rw [t2] at r2
  rw [t3] at r3
  rw [t4] at r4 y4
  obtain ⟨x0, rfl, _⟩ := open_num Tryd.underlying2 r0
  obtain ⟨x1, rfl, _⟩ := open_num Tryd.underlying2 r1
  obtain ⟨x2, rfl, _⟩ := open_num Tryd.underlying2 r2
  obtain ⟨x3, rfl, _⟩ := open_num Tryd.underlying2 r3
  obtain ⟨A, c, l, rfl, b1, b2, b3, b4⟩ := open_tens r4 y4
  exact ⟨⟨x0, x1, x2, x3, l, A, c⟩, rfl, ⟨⟨⟨b1, fun y hy => (b4 y hy).r⟩, b2⟩, b3, b4⟩⟩
end Go.Proofs.YtfpjkedcpnmfeaaDoor
