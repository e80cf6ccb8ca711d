/- CgO, LsR, LsR2, LsM2, LzF: texts of this seat, one behind the other. -/
import Derived.Test.YtpbobmiajjgekaaG6
import Derived.Test.YtpbobmiajjgekaaG5
import Derived.BigQuiet
/- Rows of structs that the call owns; append of rows of structs. -/
namespace Go.Proofs.Ytpbobmiajjgekaa
set_option linter.unusedVariables false
set_option maxRecDepth 100000
set_option linter.unusedSimpArgs false
open Go.RowKit

def fl {β : Type} (f : β → Array Value) (l : List β) : List Value := l.flatMap fun x => (f x).toList
theorem fl_app {β : Type} (f : β → Array Value) (a b : List β) : fl f (a ++ b) = fl f a ++ fl f b := by simp [fl]
theorem fl_length {β : Type} {k : Nat} {f : β → Array Value} (hf : ∀ x, (f x).size = k) : ∀ l : List β, (fl f l).length = l.length * k
  | [] => by simp [fl]
  | x :: l => by
    have := fl_length hf l
    simp only [fl, List.flatMap_cons, List.length_append, Array.length_toList, hf, List.length_cons] at this ⊢
    rw [this, Nat.add_mul, Nat.one_mul, Nat.add_comm]
theorem fl_at {β : Type} {k : Nat} {f : β → Array Value} (hf : ∀ x, (f x).size = k) : ∀ (l : List β) (i : Nat) (h : i < l.length) (j : Nat), j < k → (fl f l)[i * k + j]? = (f l[i])[j]?
  | [], i, h, _, _ => by simp at h
  | x :: l, 0, h, j, hj => by
    simp only [fl, List.flatMap_cons, Nat.zero_mul, Nat.zero_add, List.getElem_cons_zero]
    rw [List.getElem?_append_left (by rw [Array.length_toList, hf]; exact hj), Array.getElem?_toList]
  | x :: l, i + 1, h, j, hj => by
    have := fl_at hf l i (by simpa using h) j hj
    simp only [fl, List.flatMap_cons, List.getElem_cons_succ] at this ⊢
    rw [List.getElem?_append_right (by rw [Array.length_toList, hf, Nat.add_mul]; omega), Array.length_toList, hf, Nat.add_mul, Nat.one_mul, ← this]
    congr 1
    omega
theorem fl_mem {β : Type} {f : β → Array Value} {l : List β} {u : Value} (h : u ∈ fl f l) : ∃ x ∈ l, u ∈ f x := by
  obtain ⟨x, hx, hu⟩ := List.mem_flatMap.1 h
  exact ⟨x, hx, by simpa using hu⟩
theorem fl_all {β : Type} {k : Nat} {f : β → Array Value} (hf : ∀ x, (f x).size = k) (hk : 0 < k) (l : List β) (q : Nat) (u : Value) (h : (fl f l)[q]? = some u) : ∃ i j, ∃ hi : i < l.length, j < k ∧ q = i * k + j ∧ (f l[i])[j]? = some u := by
  have hq : q < l.length * k := by
    have := (List.getElem?_eq_some_iff.1 h).1
    rwa [fl_length hf] at this
  have h1 : q / k < l.length := (Nat.div_lt_iff_lt_mul hk).2 hq
  have h2 := Nat.mod_lt q hk
  have h3 : q = q / k * k + q % k := by rw [Nat.mul_comm]; exact (Nat.div_add_mod q k).symm
  refine ⟨q / k, q % k, h1, h2, h3, ?_⟩
  rw [← fl_at hf l (q / k) h1 (q % k) h2, ← h3, h]

/-- How rows of a type lie. -/
structure Ro {β : Type} (P : Program) (t e : TypeId) (k by_ : Nat) (f : β → Array Value) : Prop where
  ht : P.underlying t = some (.slice e)
  hi : ∃ i z, P.info? e = some i ∧ i.zero = some z ∧ i.size = k ∧ i.bytes = by_ ∧ z.cells.size = k
  k0 : 0 < k
  fs : ∀ x, (f x).size = k
  one : ∀ x, ∀ u ∈ f x, u.oneCell' = true
  few : by_ ≤ 128

/-- The slice at A, of capacity c, owns the rows l: it lies at block B or behind it. -/
def Ow {β : Type} (e : TypeId) (k : Nat) (f : β → Array Value) (w : World) (B : Nat) (A : Option Addr) (c : Nat) (l : List β) : Prop := w.ownsRow B e k (.slice A l.length c) l.length (fl f l)

section
variable {β : Type} {P : Program} {t e : TypeId} {k by_ : Nat} {f : β → Array Value} {w w' : World} {B : Nat} {A : Option Addr} {c : Nat} {l : List β}

theorem Ow.nil (w : World) (B : Nat) : Ow e k f w B none 0 [] := World.ownsRow_nil w B e k
theorem Ow.rw_ (hf : ∀ x, (f x).size = k) (h : Ow e k f w B A c l) : Rw k f w A l := by
  by_cases h0 : l = []
  · exact .inl h0
  · have hp : 0 < l.length := List.length_pos_iff.2 h0
    obtain ⟨g, cap, hv, hb, hl⟩ := World.ownsRow.form h hp
    injection hv with h1 _ _
    subst h1
    refine .inr ⟨g, 0, rfl, hl, fun i hi j hj => ?_⟩
    have hlt : i * k + j < l.length * k := by
      have h2 : (i + 1) * k ≤ l.length * k := Nat.mul_le_mul_right k (by omega)
      rw [Nat.add_mul, Nat.one_mul] at h2
      omega
    have e1 := World.ownsRow.cellAt h (i * k + j) hlt
    rw [Nat.zero_add, e1, fl_at hf l i hi j hj]
theorem Ow.fit (h : Ow e k f w B A c l) : Fit A l.length c := by
  rcases h.2 with ⟨hv, h0⟩ | ⟨g, cap, cur, hv, _, _, hn, hm, _⟩
  · injection hv with h1 _ h3
    exact ⟨by omega, by omega, fun _ => ⟨h0, h3⟩⟩
  · injection hv with h1 _ h3
    unfold maxLen at hm
    exact ⟨by omega, by omega, fun e => by rw [e] at h1; cases h1⟩
/-- What the call owns stays owned where its block stays. -/
theorem Ow.keep (h : Ow e k f w B A c l) (hk : ∀ g cs, B ≤ g → Bk w g e cs → Bk w' g e cs) : Ow e k f w' B A c l := by
  refine ⟨h.1, ?_⟩
  rcases h.2 with hn | ⟨g, cap, cur, hv, hg, hh, r⟩
  · exact .inl hn
  · exact .inr ⟨g, cap, cur, hv, hg, hk g cur hg hh, r⟩
theorem Ow.set (h : Ow e k f w B A c l) {p : Addr} (hp : p.block < B) (v : Value) : Ow e k f (w.setCell p v) B A c l := h.keep fun g cs hg hh => hh.far (by omega) v
theorem Ow.on (h : Ow e k f w B A c l) (hb : Below w.heap.size w w') : Ow e k f w' B A c l := h.keep fun g cs _ hh => hh.below hb hh.lt
/-- Its block. -/
theorem Ow.block (h : Ow e k f w B A c l) (n : Nat) (g : Nat) (hn : (Value.slice A n c).ownBlock = some g) : B ≤ g ∧ g < w.heap.size ∧ ∃ cs, Bk w g e cs := by
  rcases h.2 with ⟨hv, _⟩ | ⟨g', cap, cur, hv, hb, hh, _⟩
  · injection hv with h1
    subst h1
    cases hn
  · injection hv with h1
    subst h1
    simp [Value.ownBlock] at hn
    subst hn
    exact ⟨hb, lt_of_block hh, cur, hh⟩
theorem Rw.bk {g : Nat} {t' : TypeId} {x : β} (h : Bk w g t' (f x)) : Rw k f w (some ⟨g, 0, none⟩) [x] :=
  .inr ⟨g, 0, rfl, h.lt, fun i hi j _ => by
    have hi0 : i = 0 := by simp at hi; omega
    subst hi0
    rw [h.cell]; simp⟩

/-- append of rows, as one operation. -/
theorem op_rows (R : Ro P t e k by_ f) {o : Oper} {a : Act} {K : Act → World → Prop} {Q : Exit → Act → World → Prop} (s x : Operand)
    (ho : o.op = .call { callee := .builtin .append, args := #[s, x], argTypes := #[t, t] }) (n : Nat) (hs : a.eval s = .slice A n c) (hn : l.length = n) (hown : Ow e k f w B A c l)
    (M : List β) (A' : Option Addr) (m c' : Nat) (hx : a.eval x = .slice A' m c') (hm : M.length = m) (hnil : A' = none → m = 0 ∧ c' = 0) (hR : Rw k f w A' M)
    (hlen : n + m ≤ 1099511627776) (hbase : B ≤ w.heap.size) (s' : Nat) (hsum : n + m = s')
    (h : ∀ A2 c2 w', Ow e k f w' B A2 c2 (l ++ M) → w.grownBy w' (Value.slice A n c).ownBlock → Below B w w' → K (a.put o.dst (.slice A2 s' c2)) w') : o.wp P a w K Q := by
  obtain ⟨i, z, hi1, hz, hsz, hby, hzc⟩ := R.hi
  subst hn; subst hm; subst hsum
  cases A' with
  | none =>
    obtain ⟨h0, rfl⟩ := hnil rfl
    have hk : M = [] := List.eq_nil_of_length_eq_zero h0
    subst hk
    have hrun := run_append_owned_none (P := P) (w := w) B t o.type e i k R.ht hi1 _ l.length (fl f l) hown
    unfold Oper.wp
    simp [execOp, ho, resolve, invoke, builtin, hs, hx, hrun, Result.andThen]
    have := h A c w (by simpa using hown) (World.grownBy.refl w _) (Below.refl B w)
    exact (by simpa using this : K (a.put o.dst (Value.slice A l.length c)) w)
  | some ad =>
    have hb8 : (l.length + M.length) * by_ ≤ 140737488355328 := Nat.le_trans (Nat.mul_le_mul hlen R.few) (by decide)
    refine wp_append_own w s x t ho B e i z k by_ R.ht hi1 hz hsz hby hzc R.k0 _ l.length (fl f l) hs hown ad M.length c' (fl f M) hx (fl_length R.fs M) ?_ ?_ (by unfold maxLen; omega) hb8 hbase ?_
    · intro q u hu
      obtain ⟨i', j, hi', hj, rfl, hv⟩ := fl_all R.fs R.k0 M q u hu
      rcases hR with h0 | ⟨b, o', e1, _, hc⟩
      · subst h0; simp at hi'
      · injection e1 with e1
        subst e1
        rw [add_plain, ← Nat.add_assoc, hc i' hi' j hj, hv]
    · intro u hu
      obtain ⟨y, _, hy⟩ := fl_mem hu
      exact R.one y u hy
    · intro v' w' hown' hg _
      have hbel : Below B w w' := (Below.refl B w).grown hg hbase (fun k hk => (World.ownsRow.lt hown k hk).1)
      have hlen' : (l ++ M).length = l.length + M.length := List.length_append
      rw [← fl_app] at hown'
      rw [← hlen'] at hown'
      by_cases h0 : l ++ M = []
      · rw [h0] at hown'
        rcases hown'.2 with ⟨rfl, _⟩ | ⟨g, cap, cur, rfl, _, r⟩
        · have := h none 0 w' (by rw [h0]; exact Ow.nil w' B) hg hbel
          rwa [← hlen', h0] at this
        · have := h (some ⟨g, 0, none⟩) cap w' (by rw [h0]; exact hown') hg hbel
          rwa [← hlen', h0] at this
      · have hp : 0 < (l ++ M).length := List.length_pos_iff.2 h0
        obtain ⟨g, cap, rfl, _, _⟩ := World.ownsRow.form hown' hp
        have := h (some ⟨g, 0, none⟩) cap w' hown' hg hbel
        rwa [← hlen'] at this
/-- The same, in a region that draws nothing. -/
theorem wp_rows (R : Ro P t e k by_ f) {ops : Array Oper} {rest : List Oper} {o : Oper} {a : Act} {Q : Exit → Act → World → Prop} (hw : Region.wanted o (yielded ops a.tmps) = true) (s x : Operand)
    (ho : o.op = .call { callee := .builtin .append, args := #[s, x], argTypes := #[t, t] }) (n : Nat) (hs : a.eval s = .slice A n c) (hn : l.length = n) (hown : Ow e k f w B A c l)
    (M : List β) (A' : Option Addr) (m c' : Nat) (hx : a.eval x = .slice A' m c') (hm : M.length = m) (hnil : A' = none → m = 0 ∧ c' = 0) (hR : Rw k f w A' M)
    (hlen : n + m ≤ 1099511627776) (hbase : B ≤ w.heap.size) (s' : Nat) (hsum : n + m = s')
    (h : ∀ A2 c2 w', Ow e k f w' B A2 c2 (l ++ M) → w.grownBy w' (Value.slice A n c).ownBlock → Below B w w' → wpList P ops Q rest (a.put o.dst (.slice A2 s' c2)) w') : wpList P ops Q (o :: rest) a w :=
  wpList_wanted hw fun K hK => op_rows R s x ho n hs hn hown M A' m c' hx hm hnil hR hlen hbase s' hsum (fun A2 c2 w' k1 k2 k3 => hK _ _ (h A2 c2 w' k1 k2 k3))
theorem wp_rows0 (R : Ro P t e k by_ f) {ops : Array Oper} {rest : List Oper} {o : Oper} {a : Act} {Q : Exit → Act → World → Prop} (hgd : o.guard = none) (s x : Operand)
    (ho : o.op = .call { callee := .builtin .append, args := #[s, x], argTypes := #[t, t] }) (n : Nat) (hs : a.eval s = .slice A n c) (hn : l.length = n) (hown : Ow e k f w B A c l)
    (M : List β) (A' : Option Addr) (m c' : Nat) (hx : a.eval x = .slice A' m c') (hm : M.length = m) (hnil : A' = none → m = 0 ∧ c' = 0) (hR : Rw k f w A' M)
    (hlen : n + m ≤ 1099511627776) (hbase : B ≤ w.heap.size) (s' : Nat) (hsum : n + m = s')
    (h : ∀ A2 c2 w', Ow e k f w' B A2 c2 (l ++ M) → w.grownBy w' (Value.slice A n c).ownBlock → Below B w w' → wpList P ops Q rest (a.put o.dst (.slice A2 s' c2)) w') : wpList P ops Q (o :: rest) a w :=
  wpList_plain hgd fun K hK => op_rows R s x ho n hs hn hown M A' m c' hx hm hnil hR hlen hbase s' hsum (fun A2 c2 w' k1 k2 k3 => hK _ _ (h A2 c2 w' k1 k2 k3))
/-- An empty row of its own. -/
theorem Ow.empty (w : World) (B : Nat) (hB : B ≤ w.heap.size) : Ow e k f (w.alloc (.cells #[] e)) B (some ⟨w.heap.size, 0, none⟩) 0 ([] : List β) := by
  have := World.ownsRow_lit (base := B) (e := e) (size := k) w #[] 0 hB (by unfold maxLen; omega) (by simp)
  exact this
end

end Go.Proofs.Ytpbobmiajjgekaa

/- The document's own book of leases: its memory; find, held, kept, drop: their contracts. (Begun in round 12, in a seat of the document's own book alone.) -/
namespace Go.Proofs.Ytpbobmiajjgekaa
set_option linter.unusedVariables false
set_option maxRecDepth 100000
set_option linter.unusedSimpArgs false
open Go.RowKit

abbrev lsc (x : Ls) : Array Value := #[.string x.name, .string x.ten, .int .i64 x.conn, .int .i64 x.epoch, .int .i64 x.till, .bool x.held]
theorem roL : Ro Try.prog 40 32 6 64 lsc := ⟨Try.underlying40, (by
  obtain ⟨i, h1, h2, h3, h4⟩ := info_parts (show (Try.prog.info? 32).map (fun i => (i.zero, i.size, i.bytes)) = some (some (.agg #[.string ByteArray.empty, .string ByteArray.empty, .int .i64 0, .int .i64 0, .int .i64 0, .bool false]), 6, 64) by kernel_rfl)
  exact ⟨i, _, h1, h2, h3, h4, rfl⟩), by omega, fun _ => rfl, (fun x u hu => by simp at hu; rcases hu with rfl | rfl | rfl | rfl | rfl | rfl <;> rfl), by omega⟩
abbrev OL13 (w : World) (B : Nat) (A : Option Addr) (c : Nat) (l : List Ls) : Prop := Ow 32 6 lsc w B A c l
abbrev bkc (A : Option Addr) (n c : Nat) (g most nx : Int) : Array Value := #[.slice A n c, .int .i64 g, .int .i64 most, .int .i64 nx]
/-- At bb lies the document's book. -/
structure Lr (u : World) (bb B : Nat) (g most : Int) (b : Bo) : Prop where
  ex : ∃ A c, Bk u bb 46 (bkc A b.l.length c g most b.nx) ∧ OL13 u B A c b.l
  lt : bb < B
  bs : B ≤ u.heap.size
theorem Lr.on {u u' : World} {bb B : Nat} {g most : Int} {b : Bo} (h : Lr u bb B g most b) (hb : Below u.heap.size u u') : Lr u' bb B g most b := by
  obtain ⟨⟨A, c, h1, h2⟩, h3, h4⟩ := h
  exact ⟨⟨A, c, h1.below hb h1.lt, h2.on hb⟩, h3, Nat.le_trans h4 hb.size⟩
/-- One lease of a row. -/
theorem row6 {w : World} {A : Option Addr} {l : List Ls} (h : Rw 6 lsc w A l) (i : Nat) (hi : i < l.length) :
    ∃ b o x, A = some ⟨b, o, none⟩ ∧ l[i]? = some x ∧ ∀ u, Below w.heap.size w u → u.cell? ⟨b, o + i * 6, none⟩ = some (.string x.name) ∧ u.cell? ⟨b, o + i * 6 + 1, none⟩ = some (.string x.ten) ∧ u.cell? ⟨b, o + i * 6 + 2, none⟩ = some (.int .i64 x.conn) ∧ u.cell? ⟨b, o + i * 6 + 3, none⟩ = some (.int .i64 x.epoch) ∧ u.cell? ⟨b, o + i * 6 + 4, none⟩ = some (.int .i64 x.till) ∧ u.cell? ⟨b, o + i * 6 + 5, none⟩ = some (.bool x.held) := by
  obtain ⟨b, o, x, h1, h2, h3⟩ := Rw.at_ h i hi
  exact ⟨b, o, x, h1, h2, fun u hb => ⟨h3 u hb 0 (by omega), h3 u hb 1 (by omega), h3 u hb 2 (by omega), h3 u hb 3 (by omega), h3 u hb 4 (by omega), h3 u hb 5 (by omega)⟩⟩

/-- What find tells. -/
def FiP (s : ByteArray) (l : List Ls) (w : World) (e : Ending) (w' : World) : Prop := ((∃ (i : Nat) (x : Ls), e = .returned (.int .i64 (i : Int)) ∧ i < l.length ∧ l[i]? = some x ∧ fnL s l = some x) ∨ (e = .returned (.int .i64 (-1)) ∧ fnL s l = none)) ∧ Below w.heap.size w w'
theorem fn_at {s : ByteArray} {l : List Ls} {i : Nat} {x : Ls} (h : l[i]? = some x) (h0 : ∀ y ∈ l.take i, nmE y.name s = false) (hx : nmE x.name s = true) : fnL s l = some x := by
  unfold fnL
  obtain ⟨hi, he⟩ := List.getElem?_eq_some_iff.1 h
  have e : l = l.take i ++ x :: l.drop (i + 1) := by
    rw [← he, ← List.drop_eq_getElem_cons hi, List.take_append_drop]
  rw [e, List.find?_append]
  have h1 : (l.take i).find? (fun x => nmE x.name s) = none := List.find?_eq_none.2 fun y hy => by rw [h0 y hy]; simp
  rw [h1, List.find?_cons, hx]
  rfl
set_option maxRecDepth 100000 in
set_option maxHeartbeats 2000000 in
theorem lrfind_ok (u : World) (bb B : Nat) (g most : Int) (b : Bo) (s : ByteArray) (h : Lr u bb B g most b) (hl : b.l.length ≤ 1099511626) :
    Calls Try.prog 53 #[.pointer (some ⟨bb, 0, none⟩), .string s] u (FiP s b.l u) := by
  obtain ⟨⟨A, c, h1, h2⟩, _, _⟩ := h
  have HR := Lib.hid (Ow.rw_ (f := lsc) (k := 6) (fun _ => rfl) h2)
  have e0 : u.cell? ⟨bb, 0, none⟩ = some (.slice A b.l.length c) := h1.cell 0
  obtain ⟨l, nx⟩ := b
  dsimp only at HR e0 hl ⊢
  obtain ⟨n, hn⟩ : ∃ n, l.length = n := ⟨_, rfl⟩
  have HN := Lib.hid hn
  rw [hn] at e0 hl
  clear h1 h2 hn
  go_enter Try.func53, Try.ntmps53
  go_wp2
  go_loopw [5] (fun v5 wr => ∃ i : Nat, i ≤ n ∧ v5 = .int .i64 (i : Int) ∧ Hid (∀ y ∈ l.take i, nmE y.name s = false) ∧ wr = u) (fun v5 _ => n - (intOf v5).toNat)
  case atStart => exact ⟨0, by omega, rfl, Lib.hid (fun y hy => by simp at hy), by first | rfl | trivial⟩
  case round =>
    obtain ⟨i, hi, rfl, H0, hwr⟩ := hrel
    subst hwr
    by_cases hi1 : i < n
    · have hi2 : (i : Int) < (n : Int) := by omega
      obtain ⟨b, o, x, rfl, hx, hc⟩ := row6 HR.out i (by rw [HN.out]; exact hi1)
      obtain ⟨c0, _, _, _, _, _⟩ := hc _ (Below.refl _ _)
      have HX := Lib.hid hx
      obtain ⟨q, hq⟩ : ∃ q, (x.name.toList == s.toList) = q := ⟨_, rfl⟩
      have HQ := Lib.hid (show nmE x.name s = q from hq)
      clear hc hx
      cases q with
      | true =>
        go_wp2
        go_ret
        exact ⟨.inl ⟨i, x, rfl, by rw [HN.out]; exact hi1, HX.out, fn_at HX.out H0.out HQ.out⟩, Below.refl _ _⟩
      | false =>
        go_wp2
        go_roundw
        case rel =>
          refine ⟨i + 1, by omega, by go_num, Lib.hid (fun y hy => ?_), by first | rfl | trivial⟩
          rw [List.take_add_one, HX.out, List.mem_append] at hy
          rcases hy with hy | hy
          · exact H0.out y hy
          · simp at hy; rw [hy]; exact HQ.out
        case measure => simp [intOf]; omega
    · have hi2 : ¬ (i : Int) < (n : Int) := by omega
      go_wp2
      go_ret
      refine ⟨.inr ⟨rfl, ?_⟩, Below.refl _ _⟩
      refine List.find?_eq_none.2 fun y hy => ?_
      have := H0.out y (by rw [List.take_of_length_le (by rw [HN.out]; omega)]; exact hy)
      rw [this]; simp
end Go.Proofs.Ytpbobmiajjgekaa

/- The document's own book of leases: held, kept, time, clock, drop: their contracts. -/
namespace Go.Proofs.Ytpbobmiajjgekaa
set_option linter.unusedVariables false
set_option maxRecDepth 100000
set_option linter.unusedSimpArgs false
open Go.RowKit

theorem Ow.weak {β : Type} {e : TypeId} {k : Nat} {f : β → Array Value} {w : World} {B B' : Nat} {A : Option Addr} {c : Nat} {l : List β} (h : Ow e k f w B A c l) (hB : B' ≤ B) : Ow e k f w B' A c l :=
  ⟨h.1, h.2.imp id fun ⟨g, cap, cur, h1, h2, r⟩ => ⟨g, cap, cur, h1, Nat.le_trans hB h2, r⟩⟩
set_option maxHeartbeats 400000 in
theorem lrheld_ok (x : Ls) (now : Int) (w : World) : Calls Try.prog 46 #[.agg (lsc x), .int .i64 now] w fun e w' => e = .returned (.bool (heL x now)) ∧ Below w.heap.size w w' := by
  obtain ⟨nm, tn, cn, ep, tl, hd⟩ := x
  unfold heL
  try dsimp only
  have HB := Lib.hid (show Below w.heap.size w (w.alloc (.cells #[.string nm, .string tn, .int .i64 cn, .int .i64 ep, .int .i64 tl, .bool hd] 32)) from (Below.refl _ _).alloc (Nat.le_refl _) _)
  have hk := Bk.new w 32 #[.string nm, .string tn, .int .i64 cn, .int .i64 ep, .int .i64 tl, .bool hd]
  have c4 := hk.cell 4
  have c5 := hk.cell 5
  simp only [List.getElem?_toArray, List.getElem?_cons_zero, List.getElem?_cons_succ] at c4 c5
  clear hk
  cases hd
  all_goals
    go_enter Try.func46, Try.ntmps46
    go_wp2
    go_ret
    exact ⟨by simp, HB.out⟩
set_option maxHeartbeats 400000 in
theorem lrtime_ok (n : Int) (w : World) : Calls Try.prog 34 #[.int .i64 n] w fun e w' => e = .returned (.bool (timB n)) ∧ w' = w := by
  unfold timB
  by_cases h1 : 1 ≤ n
  · have h2 : n ≥ 1 := h1
    go_enter Try.func34, Try.ntmps34
    go_wp2
    go_ret
    exact ⟨by simp [h1], rfl⟩
  · have h2 : decide (1 ≤ n) = false := decide_eq_false h1
    have h3 : decide (n ≥ 1) = false := decide_eq_false h1
    go_enter Try.func34, Try.ntmps34
    go_wp2
    go_ret
    exact ⟨by simp [h1], rfl⟩
set_option maxHeartbeats 400000 in
theorem lrclock_ok (n : Int) (w : World) : Calls Try.prog 41 #[.int .i64 n] w fun e w' => e = .returned (.bool (clkB n)) ∧ w' = w := by
  unfold clkB
  by_cases h1 : 0 ≤ n
  · have h2 : n ≥ 0 := h1
    go_enter Try.func41, Try.ntmps41
    go_wp2
    go_ret
    exact ⟨by simp [h1], rfl⟩
  · have h2 : decide (0 ≤ n) = false := decide_eq_false h1
    have h3 : decide (n ≥ 0) = false := decide_eq_false h1
    go_enter Try.func41, Try.ntmps41
    go_wp2
    go_ret
    exact ⟨by simp [h1], rfl⟩
end Go.Proofs.Ytpbobmiajjgekaa

/- The document's put, step by step, is that of rising names. -/
namespace Go.Proofs.Ytpbobmiajjgekaa
set_option linter.unusedVariables false
set_option maxRecDepth 100000
set_option linter.unusedSimpArgs false

/-- One round of put: what was written so far, and whether the new one is among it. -/
def stL (x : Ls) (p : List Ls × Bool) (y : Ls) : List Ls × Bool :=
  ((if (!p.2 && !ltS y.name x.name) = true then p.1 ++ [x] else p.1) ++ (if nmE y.name x.name = true then [] else [y]), p.2 || !ltS y.name x.name)
def foL (x : Ls) (l : List Ls) : List Ls × Bool := l.foldl (stL x) ([], false)
theorem foL_snoc (x : Ls) (l : List Ls) (y : Ls) : foL x (l ++ [y]) = stL x (foL x l) y := by unfold foL; rw [List.foldl_append]; rfl
theorem fold_done (x : Ls) : ∀ (l o : List Ls), (∀ y ∈ l, nmE y.name x.name = false) → l.foldl (stL x) (o, true) = (o ++ l, true)
  | [], o, _ => by simp
  | y :: r, o, h => by
    rw [List.foldl_cons]
    have e : stL x (o, true) y = (o ++ [y], true) := by
      unfold stL
      rw [h y (List.mem_cons_self ..)]
      simp
    rw [e, fold_done x r (o ++ [y]) (fun z hz => h z (List.mem_cons_of_mem _ hz))]
    simp
theorem ltS_asymm {a b : ByteArray} (h : ltS a b = true) : ltS b a = false := by
  rw [Bool.eq_false_iff]
  intro k
  have := ltS_trans h k
  rw [ltS_irrefl] at this
  cases this
theorem lt_ne {a b : ByteArray} (h : ltS a b = true) : nmE a b = false := by
  rw [Bool.eq_false_iff]
  intro k
  rw [nmE_iff] at k
  rw [k, ltS_irrefl] at h
  cases h
theorem gt_ne {a b : ByteArray} (h : ltS b a = true) : nmE a b = false := by
  rw [Bool.eq_false_iff]
  intro k
  rw [nmE_iff] at k
  rw [k, ltS_irrefl] at h
  cases h
theorem fold_put (x : Ls) : ∀ (l o : List Ls), UpL l → (l.foldl (stL x) (o, false)).1 ++ (if (l.foldl (stL x) (o, false)).2 = true then [] else [x]) = o ++ ptL x l
  | [], o, _ => by simp [ptL]
  | y :: r, o, h => by
    obtain ⟨h1, h2⟩ := List.pairwise_cons.1 h
    rw [List.foldl_cons]
    cases hl : ltS y.name x.name with
    | true =>
      have e : stL x (o, false) y = (o ++ [y], false) := by
        unfold stL
        rw [hl, lt_ne hl]
        simp
      rw [e, fold_put x r (o ++ [y]) h2]
      show _ = o ++ (if nmE y.name x.name = true then x :: r else if ltS x.name y.name = true then x :: y :: r else y :: ptL x r)
      rw [lt_ne hl, ltS_asymm hl]
      simp
    | false =>
      cases hq : nmE y.name x.name with
      | true =>
        have he := (nmE_iff _ _).1 hq
        have e : stL x (o, false) y = (o ++ [x], true) := by
          unfold stL
          rw [hl, hq]
          simp
        rw [e, fold_done x r (o ++ [x]) (fun z hz => gt_ne (by rw [← he]; exact h1 z hz))]
        show _ = o ++ (if nmE y.name x.name = true then x :: r else if ltS x.name y.name = true then x :: y :: r else y :: ptL x r)
        rw [hq]
        simp
      | false =>
        have hgt : ltS x.name y.name = true := by
          rcases ltS_total x.name y.name with k | k | k
          · exact k
          · rw [k, (nmE_iff _ _).2 rfl] at hq; cases hq
          · rw [k] at hl; cases hl
        have e : stL x (o, false) y = (o ++ [x] ++ [y], true) := by
          unfold stL
          rw [hl, hq]
          simp
        rw [e, fold_done x r (o ++ [x] ++ [y]) (fun z hz => gt_ne (ltS_trans hgt (h1 z hz)))]
        show _ = o ++ (if nmE y.name x.name = true then x :: r else if ltS x.name y.name = true then x :: y :: r else y :: ptL x r)
        rw [hq, hgt]
        simp
theorem foL_put {x : Ls} {l : List Ls} (h : UpL l) : (foL x l).1 ++ (if (foL x l).2 = true then [] else [x]) = ptL x l := by
  have := fold_put x l [] h
  rw [List.nil_append] at this
  exact this
theorem foL_len (x : Ls) : ∀ (l : List Ls) (p : List Ls × Bool), (l.foldl (stL x) p).1.length + (if (l.foldl (stL x) p).2 = true then 0 else 1) ≤ p.1.length + l.length + (if p.2 = true then 0 else 1)
  | [], p => by
    obtain ⟨o, d⟩ := p
    cases d <;> simp
  | y :: r, p => by
    rw [List.foldl_cons]
    have ih := foL_len x r (stL x p y)
    obtain ⟨o, d⟩ := p
    have e : (stL x (o, d) y).1.length + (if (stL x (o, d) y).2 = true then 0 else 1) ≤ o.length + 1 + (if d = true then 0 else 1) := by
      unfold stL
      cases d <;> cases ltS y.name x.name <;> cases nmE y.name x.name <;> simp
    simp only [List.length_cons] at *
    omega
end Go.Proofs.Ytpbobmiajjgekaa

/- Leases that are written anew, or dropped, one behind the other: what comes of it. Nothing of the program is named here. -/
namespace Go.Proofs.Ytpbobmiajjgekaa
set_option linter.unusedVariables false
set_option maxRecDepth 100000
set_option linter.unusedSimpArgs false

theorem drL_none {s : ByteArray} {l : List Ls} (h : ∀ y ∈ l, nmE y.name s = false) : drL s l = l := List.filter_eq_self.2 fun y hy => by rw [h y hy]; rfl
theorem fn_name {s : ByteArray} {l : List Ls} {x : Ls} (h : fnL s l = some x) : x.name = s ∧ x ∈ l := by
  unfold fnL at h
  have h1 := List.find?_some h
  exact ⟨(nmE_iff _ _).1 h1, List.mem_of_find?_eq_some h⟩
theorem ptL_perm {x : Ls} : ∀ {l : List Ls}, UpL l → (ptL x l).Perm (x :: drL x.name l)
  | [], _ => List.Perm.refl _
  | z :: r, h => by
    obtain ⟨h1, h2⟩ := List.pairwise_cons.1 h
    unfold ptL
    split
    · rename_i he
      have e := (nmE_iff _ _).1 he
      have hd : drL x.name (z :: r) = r := by
        unfold drL
        rw [List.filter_cons, he]
        exact drL_none (fun y hy => gt_ne (by rw [← e]; exact h1 y hy))
      rw [hd]
    · rename_i hne
      have hne' : nmE z.name x.name = false := by simpa using hne
      split
      · rename_i hl
        rw [drL_none (fun y hy => ?_)]
        rcases List.mem_cons.1 hy with rfl | hy
        · exact hne'
        · exact gt_ne (ltS_trans hl (h1 y hy))
      · have hd : drL x.name (z :: r) = z :: drL x.name r := by
          unfold drL
          rw [List.filter_cons, hne']
          rfl
        rw [hd]
        exact ((ptL_perm h2).cons z).trans (List.Perm.swap x z _)
theorem ptL_map {x y : Ls} : ∀ {l : List Ls}, UpL l → fnL x.name l = some y → ptL x l = l.map fun z => if nmE z.name x.name = true then x else z
  | [], _, h => by cases h
  | z :: r, h, hf => by
    obtain ⟨h1, h2⟩ := List.pairwise_cons.1 h
    unfold ptL
    cases he : nmE z.name x.name with
    | true =>
      have e := (nmE_iff _ _).1 he
      rw [if_pos rfl, List.map_cons, if_pos he]
      congr 1
      refine (List.map_id _).symm.trans (List.map_congr_left fun w hw => ?_)
      rw [if_neg (by rw [gt_ne (by rw [← e]; exact h1 w hw)]; simp)]
      rfl
    | false =>
      have hf2 : fnL x.name r = some y := by
        unfold fnL at hf ⊢
        rw [List.find?_cons, he] at hf
        exact hf
      have hl : ltS x.name z.name = false := by
        rw [Bool.eq_false_iff]
        intro k
        obtain ⟨e1, e2⟩ := fn_name hf2
        have := ltS_trans k (h1 y e2)
        rw [e1, ltS_irrefl] at this
        cases this
      rw [hl, if_neg (by simp), if_neg (by simp), List.map_cons, if_neg (by rw [he]; simp), ptL_map h2 hf2]
theorem up_inj {l : List Ls} (h : UpL l) : ∀ {x y : Ls}, x ∈ l → y ∈ l → x.name = y.name → x = y := by
  induction l with
  | nil => intro x y hx; cases hx
  | cons z r ih =>
    obtain ⟨h1, h2⟩ := List.pairwise_cons.1 h
    intro x y hx hy e
    rcases List.mem_cons.1 hx with e1 | hx2
    · rcases List.mem_cons.1 hy with e2 | hy2
      · rw [e1, e2]
      · have := h1 y hy2; rw [← e1, e, ltS_irrefl] at this; cases this
    · rcases List.mem_cons.1 hy with e2 | hy2
      · have := h1 x hx2; rw [← e2, e, ltS_irrefl] at this; cases this
      · exact ih h2 hx2 hy2 e
theorem fn_of_mem {l : List Ls} (h : UpL l) {x : Ls} (hx : x ∈ l) : fnL x.name l = some x := by
  cases hf : fnL x.name l with
  | none =>
    have := List.find?_eq_none.1 hf x hx
    exact absurd ((nmE_iff _ _).2 rfl) this
  | some y =>
    obtain ⟨e1, e2⟩ := fn_name hf
    rw [up_inj h e2 hx e1]
theorem drL_mem {s : ByteArray} {l : List Ls} {x : Ls} : x ∈ drL s l ↔ x ∈ l ∧ x.name ≠ s := by
  unfold drL
  rw [List.mem_filter]
  constructor
  · rintro ⟨h1, h2⟩
    exact ⟨h1, fun e => by rw [(nmE_iff _ _).2 e] at h2; cases h2⟩
  · rintro ⟨h1, h2⟩
    refine ⟨h1, ?_⟩
    cases hq : nmE x.name s with
    | false => rfl
    | true => exact absurd ((nmE_iff _ _).1 hq) h2
theorem nmE_comm (a b : ByteArray) : nmE a b = nmE b a := by
  rw [Bool.eq_iff_iff, nmE_iff, nmE_iff]
  exact ⟨Eq.symm, Eq.symm⟩
/-- Is that name among these? -/
def anyL (S : List Ls) (s : ByteArray) : Bool := S.any fun y => nmE y.name s
theorem anyL_snoc (S : List Ls) (x : Ls) (s : ByteArray) : anyL (S ++ [x]) s = (anyL S s || nmE x.name s) := by unfold anyL; rw [List.any_append]; simp
theorem anyL_false {S : List Ls} {s : ByteArray} (h : ∀ y ∈ S, ltS y.name s = true) : anyL S s = false := by
  unfold anyL
  rw [List.any_eq_false]
  intro y hy
  rw [lt_ne (h y hy)]
  simp
/-- Those of S are written anew. -/
def upS (K : Ls → Ls) (S l : List Ls) : List Ls := l.map fun z => if anyL S z.name = true then K z else z
theorem upS_nil (K : Ls → Ls) (l : List Ls) : upS K [] l = l := by
  unfold upS
  refine (List.map_congr_left fun z _ => ?_).trans (List.map_id _)
  simp [anyL]
theorem upS_name {K : Ls → Ls} (hK : ∀ x, (K x).name = x.name) (S : List Ls) (z : Ls) : (if anyL S z.name = true then K z else z).name = z.name := by
  split
  · exact hK z
  · rfl
theorem upS_up {K : Ls → Ls} (hK : ∀ x, (K x).name = x.name) {S l : List Ls} (h : UpL l) : UpL (upS K S l) := map_up (upS_name hK S) h
theorem upS_mem {K : Ls → Ls} {S l : List Ls} {x : Ls} (hx : x ∈ l) (h : anyL S x.name = false) : x ∈ upS K S l := List.mem_map.2 ⟨x, hx, by rw [h]; simp⟩
theorem upS_snoc {K : Ls → Ls} (hK : ∀ x, (K x).name = x.name) {S l : List Ls} (h : UpL l) {x : Ls} (hx : x ∈ l) (hs : anyL S x.name = false) : ptL (K x) (upS K S l) = upS K (S ++ [x]) l := by
  have hm : x ∈ upS K S l := upS_mem hx hs
  have hf : fnL (K x).name (upS K S l) = some x := by rw [hK]; exact fn_of_mem (upS_up hK h) hm
  rw [ptL_map (upS_up hK h) hf]
  unfold upS
  rw [List.map_map]
  refine List.map_congr_left fun z hz => ?_
  show (if nmE (if anyL S z.name = true then K z else z).name (K x).name = true then K x else (if anyL S z.name = true then K z else z)) = _
  rw [upS_name hK, hK, anyL_snoc, nmE_comm x.name z.name]
  cases hq : nmE z.name x.name with
  | true =>
    have e := up_inj h hz hx ((nmE_iff _ _).1 hq)
    subst e
    simp
  | false => simp
theorem anyL_filter {l : List Ls} (h : UpL l) {p : Ls → Bool} {z : Ls} (hz : z ∈ l) : anyL (l.filter p) z.name = p z := by
  rw [Bool.eq_iff_iff]
  unfold anyL
  rw [List.any_eq_true]
  constructor
  · rintro ⟨y, hy, e⟩
    obtain ⟨hy1, hy2⟩ := List.mem_filter.1 hy
    rw [← up_inj h hy1 hz ((nmE_iff _ _).1 e)]
    exact hy2
  · intro hp
    exact ⟨z, List.mem_filter.2 ⟨hz, hp⟩, (nmE_iff _ _).2 rfl⟩
theorem upS_all {K : Ls → Ls} {l : List Ls} (h : UpL l) (p : Ls → Bool) : upS K (l.filter p) l = l.map fun z => if p z = true then K z else z := by
  unfold upS
  refine List.map_congr_left fun z hz => ?_
  rw [anyL_filter h hz]
/-- Those of S are dropped. -/
def dlS (S l : List Ls) : List Ls := l.filter fun z => !anyL S z.name
theorem dlS_nil (l : List Ls) : dlS [] l = l := List.filter_eq_self.2 fun z _ => by simp [anyL]
theorem dlS_snoc (S l : List Ls) (x : Ls) : drL x.name (dlS S l) = dlS (S ++ [x]) l := by
  unfold drL dlS
  rw [List.filter_filter]
  refine List.filter_congr fun z _ => ?_
  rw [anyL_snoc, nmE_comm x.name z.name]
  cases nmE z.name x.name <;> cases anyL S z.name <;> rfl
theorem dlS_all {l : List Ls} (h : UpL l) (p : Ls → Bool) : dlS (l.filter p) l = l.filter fun z => !p z := by
  unfold dlS
  refine List.filter_congr fun z hz => ?_
  rw [anyL_filter h hz]
theorem take_lt {l : List Ls} (h : UpL l) {i : Nat} {x : Ls} (hx : l[i]? = some x) : ∀ y ∈ l.take i, ltS y.name x.name = true := by
  intro y hy
  obtain ⟨hi, e⟩ := List.getElem?_eq_some_iff.1 hx
  have e2 : l = l.take i ++ x :: l.drop (i + 1) := by rw [← e, ← List.drop_eq_getElem_cons hi, List.take_append_drop]
  unfold UpL at h
  rw [e2, List.pairwise_append] at h
  exact h.2.2 y hy x (List.mem_cons_self ..)
theorem filter_up {l : List Ls} (h : UpL l) (p : Ls → Bool) : UpL (l.filter p) := List.Pairwise.filter _ h
/-- In the midst: what is done stands ahead of what is to come. -/
theorem ptL_mid {x : Ls} : ∀ {a r : List Ls} {y : Ls}, UpL (a ++ y :: r) → x.name = y.name → ptL x (a ++ y :: r) = a ++ x :: r
  | [], r, y, _, e => by
    show ptL x (y :: r) = x :: r
    unfold ptL
    rw [if_pos ((nmE_iff _ _).2 e.symm)]
  | z :: a, r, y, h, e => by
    obtain ⟨h1, h2⟩ := List.pairwise_cons.1 h
    have hz : ltS z.name x.name = true := by rw [e]; exact h1 y (by simp)
    show ptL x (z :: (a ++ y :: r)) = z :: (a ++ x :: r)
    rw [show ptL x (z :: (a ++ y :: r)) = (if nmE z.name x.name then x :: (a ++ y :: r) else if ltS x.name z.name then x :: z :: (a ++ y :: r) else z :: ptL x (a ++ y :: r)) from rfl, lt_ne hz, ltS_asymm hz]
    simp only [Bool.false_eq_true, if_false]
    rw [ptL_mid h2 e]
theorem drL_mid {a r : List Ls} {y : Ls} (h : UpL (a ++ y :: r)) : drL y.name (a ++ y :: r) = a ++ r := by
  unfold UpL at h
  rw [List.pairwise_append] at h
  obtain ⟨h1, h2, h3⟩ := h
  obtain ⟨h4, h5⟩ := List.pairwise_cons.1 h2
  unfold drL
  rw [List.filter_append, List.filter_cons, (nmE_iff _ _).2 rfl]
  simp only [Bool.not_true, Bool.false_eq_true, if_false]
  rw [List.filter_eq_self.2 (fun z hz => by rw [lt_ne (h3 z hz y (List.mem_cons_self ..))]; rfl), List.filter_eq_self.2 (fun z hz => by rw [gt_ne (h4 z hz)]; rfl)]
end Go.Proofs.Ytpbobmiajjgekaa
