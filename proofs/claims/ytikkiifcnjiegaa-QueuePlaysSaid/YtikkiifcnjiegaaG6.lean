/- SClone, Qu1, Qu2, Qu3: texts of this seat, one behind the other. -/
import Derived.Test.YtikkiifcnjiegaaG1
import Derived.Test.YtikkiifcnjiegaaShelf
import Derived.Test.YtikkiifcnjiegaaG4
import Derived.Test.YtikkiifcnjiegaaOi
import Derived.Lib.OwnBridge
import Derived.Maps.AppendAt
/- strings.Clone: its contract. -/
namespace Go.Proofs.Ytikkiifcnjiegaa
set_option linter.unusedVariables false
set_option maxRecDepth 100000
set_option linter.unusedSimpArgs false
open Go.RowKit

set_option maxRecDepth 100000 in
set_option maxHeartbeats 1000000 in
theorem sclone_ok (s : ByteArray) (w : World) (hs : s.size ≤ 140737488355328) : Calls Try.prog 31 #[.string s] w fun e u' => e = .returned (.string s) ∧ Below w.heap.size w u' := by
  have HI := Lib.hid (fun u => Try.stringslite_Clone s u (by omega))
  go_enter Try.func31, Try.ntmps31
  go_wp2_with (go_at_call 33; refine (HI.out _).mono ?_; rintro e u2 ⟨rfl, hb⟩; have HB := Lib.hid hb; clear hb)
  go_ret
  exact ⟨rfl, HB.out⟩

end Go.Proofs.Ytikkiifcnjiegaa

/- The queue's rows in memory; newRow, drop, list: their contracts. -/
namespace Go.Proofs.Ytikkiifcnjiegaa
set_option linter.unusedVariables false
set_option maxRecDepth 100000
set_option linter.unusedSimpArgs false
open Go.RowKit

theorem bk_ne {w : World} {g g' : Nat} {t t' : TypeId} {cs cs' : Array Value} (h : Bk w g t cs) (h' : Bk w g' t' cs') (ht : t ≠ t') : g ≠ g' := by
  rintro rfl
  have h1 : w.heap[g]? = some (.cells cs t (0, 0)) := h
  have h2 : w.heap[g]? = some (.cells cs' t' (0, 0)) := h'
  rw [h1] at h2
  injection h2 with h2
  injection h2 with _ h3
  exact ht h3
theorem bk_map {w : World} {g g' : Nat} {t : TypeId} {cs : Array Value} (h : Bk w g t cs) (h' : ∃ es ck, w.heap[g']? = some (.map es ck)) : g ≠ g' := by
  rintro rfl
  obtain ⟨es, ck, h2⟩ := h'
  have h1 : w.heap[g]? = some (.cells cs t (0, 0)) := h
  rw [h1] at h2
  cases h2
theorem bk_eq {w : World} {g : Nat} {t : TypeId} {cs cs' : Array Value} (h : Bk w g t cs) (h' : Bk w g t cs') : cs = cs' := by
  have h1 : w.heap[g]? = some (.cells cs t (0, 0)) := h
  have h2 : w.heap[g]? = some (.cells cs' t (0, 0)) := h'
  rw [h1] at h2
  injection h2 with h2
  injection h2 with h2
theorem OI.keep {w w' : World} {B : Nat} {A : Option Addr} {c : Nat} {L : List Int} (h : OI w B A c L) (hk : ∀ g cs, (Value.slice A L.length c).ownBlock = some g → Bk w g 3 cs → Bk w' g 3 cs) : OI w' B A c L := by
  refine ⟨h.1, ?_⟩
  rcases h.2 with hn | ⟨g, cap, cur, hv, hg, hh, r⟩
  · exact .inl hn
  · exact .inr ⟨g, cap, cur, hv, hg, hk g cur (by rw [hv]; rfl) hh, r⟩
theorem OI.bk {w : World} {B a : Nat} {c : Nat} {L : List Int} (h : OI w B (some ⟨a, 0, none⟩) c L) : ∃ cs, Bk w a 3 cs := by
  rcases h.2 with ⟨hv, _⟩ | ⟨g, cap, cur, hv, hg, hh, r⟩
  · cases hv
  · injection hv with h1
    injection h1 with h1
    injection h1 with h1
    subst h1
    exact ⟨cur, hh⟩
theorem OI.weak {w : World} {B B' : Nat} {A : Option Addr} {c : Nat} {L : List Int} (h : OI w B A c L) (hB : B' ≤ B) : OI w B' A c L := by
  refine ⟨h.1, ?_⟩
  rcases h.2 with hn | ⟨g, cap, cur, hv, hg, hh, r⟩
  · exact .inl hn
  · exact .inr ⟨g, cap, cur, hv, Nat.le_trans hB hg, hh, r⟩
/-- One number of a row that is owned. -/
theorem OI.cell {w : World} {B a : Nat} {c : Nat} {L : List Int} (h : OI w B (some ⟨a, 0, none⟩) c L) (j : Nat) (hj : j < L.length) : w.cell? ⟨a, 0 + j, none⟩ = some (.int .i64 (L.getD j 0)) := by
  obtain ⟨g, cap, hv, hb, hl⟩ := World.ownsRow.form h (by omega)
  injection hv with h1 h2 h3
  injection h1 with h1
  injection h1 with h1
  subst h1
  have := World.ownsRow.cellAt h j (by omega)
  rw [Nat.zero_add, this]
  simp [hj, List.getD]
theorem nd_out {l : List Int} (h : l.Nodup) {k : Nat} {x : Int} (hk : l[k]? = some x) : l.take k ++ l.drop (k + 1) = l.filter (· != x) := by
  induction l generalizing k with
  | nil => simp at hk
  | cons y r ih =>
    rw [List.nodup_cons] at h
    cases k with
    | zero =>
      simp at hk
      subst hk
      rw [List.filter_cons, if_neg (by simp)]
      simp only [List.take_zero, List.nil_append, List.drop_succ_cons, List.drop_zero]
      exact (List.filter_eq_self.2 fun z hz => by rw [bne_iff_ne]; rintro rfl; exact h.1 hz).symm
    | succ k =>
      simp at hk
      rw [List.filter_cons, if_pos (by rw [bne_iff_ne]; rintro rfl; exact h.1 (List.mem_of_getElem? hk)), ← ih h.2 hk]
      rfl

abbrev qrc (s : ByteArray) (A : Option Addr) (n c : Nat) : Array Value := #[.string s, .slice A n c]
set_option maxRecDepth 100000 in
set_option maxHeartbeats 2000000 in
theorem rdrop_ok (u : World) (b a c : Nat) (s : ByteArray) (ids : List Int) (id : Int) (hb : Bk u b 55 (qrc s (some ⟨a, 0, none⟩) ids.length c)) (ho : OI u 0 (some ⟨a, 0, none⟩) c ids) (hn : ids.Nodup) (hid : id ∈ ids) (hf : ids.length ≤ 64) :
    Calls Try.prog 26 #[.pointer (some ⟨b, 0, none⟩), .int .i64 id] u fun e u' => e = .returned (.tuple #[]) ∧ Bk u' b 55 (qrc s (some ⟨a, 0, none⟩) (ids.filter (· != id)).length c) ∧ OI u' 0 (some ⟨a, 0, none⟩) c (ids.filter (· != id)) ∧ Ke [b, a] u u' := by
  obtain ⟨k, hk⟩ := List.mem_iff_getElem?.1 hid
  obtain ⟨hkl, hke⟩ := List.getElem?_eq_some_iff.1 hk
  have hI := Try.slices_Index_int a 0 ids.length c ids id u (Nat.le_refl _) (by omega) (fun j hj => ho.cell j hj)
  rw [Lib.idxOf_hit ids ids.length k id hkl (Nat.le_refl _) (by simp [List.getD, hk]) (fun j hj e => by
    have hj2 : j < ids.length := by omega
    simp [List.getD, hj2] at e
    have := List.getElem_inj (h₀ := hj2) (h₁ := hkl) hn |>.1 (by rw [e, hke])
    omega)] at hI
  obtain ⟨g, cap, hv, _, _, hcap, hm, _, hH⟩ := Lib.holds_of_ownsRow (enc := fun x => Value.int .i64 x) ho (by simp)
  injection hv with h1 h2 h3
  injection h1 with h1
  injection h1 with h1
  subst h1; subst h3
  have hD := Try.slices_Delete_int a 0 c k (k + 1) ids u hH hcap (by unfold maxLen at hm; omega) (by omega) (by omega)
  have hys : (ids.take k ++ ids.drop (k + 1) ++ List.replicate (k + 1 - k) 0).length = ids.length := by simp; omega
  have HP := Lib.hid (fun q => And.intro (Lib.ownsRow_putRow (q := q) (k := ids.length - 1) ho hys (by omega)) (Lib.below_putRow (enc := fun x => Value.int .i64 x) (g := a) (q := q) (d := (ids.take k ++ ids.drop (k + 1) ++ List.replicate (k + 1 - k) 0).toArray) (Below.refl 0 u) (Nat.zero_le _)))
  have hfl : (ids.take k ++ ids.drop (k + 1) ++ List.replicate (k + 1 - k) 0).take (ids.length - 1) = ids.filter (· != id) := by
    rw [nd_out hn hk]
    have : (ids.filter (· != id)).length = ids.length - 1 := by rw [← nd_out hn hk]; simp; omega
    rw [List.take_append_of_le_length (by omega), List.take_of_length_le (by omega)]
  have hlen : (ids.filter (· != id)).length = ids.length - 1 := by rw [← nd_out hn hk]; simp; omega
  have hab : b ≠ a := by obtain ⟨cs, h⟩ := ho.bk; exact bk_ne hb h (by decide)
  have hK : ∀ q, Ke [a] u (Go.Sort.putRow (fun x : Int => Value.int .i64 x) (Go.Sort.ahead u q) a 0 (ids.take k ++ ids.drop (k + 1) ++ List.replicate (k + 1 - k) 0).toArray) := fun q => ⟨rfl, rfl, rfl, by simp [Go.Sort.putRow, Go.Sort.mapBlock, Go.Sort.ahead], fun j hj hn => by
    have : a ≠ j := fun e => hn (by simp [e])
    simp [Go.Sort.putRow, Go.Sort.mapBlock, Go.Sort.ahead, Array.getElem?_modify, this]⟩
  rw [hfl] at HP
  rw [hlen]
  have hD2 : Calls Try.prog 30 #[.slice (some ⟨a, 0, none⟩) ids.length c, .int .i64 (k : Int), .int .i64 ((k + 1 : Nat) : Int)] u fun e w' => e = .returned (.slice (some ⟨a, 0, none⟩) (ids.length - 1) c) ∧ Bk w' b 55 (qrc s (some ⟨a, 0, none⟩) ids.length c) ∧ OI w' 0 (some ⟨a, 0, none⟩) c (ids.filter (· != id)) ∧ Ke [b, a] u w' := hD.mono fun e w' hh => by
    obtain ⟨h1, q, h2⟩ := hh
    subst h2
    exact ⟨by rw [h1, show ids.length - (k + 1 - k) = ids.length - 1 by omega], hb.ke (hK q) (by simpa using hab), by unfold OI; rw [hlen]; exact (HP.out q).1, (hK q).more (by simp)⟩
  have c1 : u.cell? ⟨b, 1, none⟩ = some (.slice (some ⟨a, 0, none⟩) ids.length c) := hb.cell 1
  have hw : IntKind.i64.wrap ((k : Int) + 1) = ((k + 1 : Nat) : Int) := (iwrap _ (k + 1) (by omega) (by omega)).1
  have HI := Lib.hid hI
  have HAB := Lib.hid hab
  have HD := Lib.hid hD2
  obtain ⟨n, hn0⟩ : ∃ n, ids.length = n := ⟨_, rfl⟩
  rw [hn0] at HI HD c1 ⊢
  obtain ⟨j, hj⟩ : ∃ j, k + 1 = j := ⟨_, rfl⟩
  rw [hj] at HD hw
  clear hb ho hn hid hf hk hkl hke hI hcap hm hH hD hD2 hys HP hfl hlen hK hn0 hj
  go_enter Try.func26, Try.ntmps26
  go_wp2_with (first
    | (go_at_call 29; (with_reducible refine HI.out.mono ?_); rintro e u1 ⟨rfl, hu⟩; rw [hu]; clear hu)
    | (go_at_call 30; (with_reducible refine HD.out.mono ?_); rintro e u2 ⟨rfl, h1, h2, h3⟩; have HB2 := Lib.hid h1; have HO2 := Lib.hid h2; have HK2 := Lib.hid h3; have fz := h1.frozen 1; have cz : u2.cell? ⟨b, 1, none⟩ = some (.slice (some ⟨a, 0, none⟩) n c) := h1.cell 1; clear h1 h2 h3))
  go_end0
  refine ⟨rfl, HB2.out.set 1 _, HO2.out.keep fun g cs hg hh => hh.far ?_ _, HK2.out.set (by simp) _⟩
  exact fun e => HAB.out (by simp [Value.ownBlock] at hg; rw [hg]; exact e.symm)

set_option maxRecDepth 100000 in
set_option maxHeartbeats 1000000 in
theorem newRow_ok (s : ByteArray) (u : World) (hs : s.size ≤ 140737488355328) :
    Calls Try.prog 27 #[.string s] u fun e u' => ∃ b, e = .returned (.pointer (some ⟨b, 0, none⟩)) ∧ u.heap.size ≤ b ∧ Bk u' b 55 (qrc s none 0 0) ∧ Below u.heap.size u u' := by
  have HC := Lib.hid (sclone_ok s u hs)
  go_enter Try.func27, Try.ntmps27
  go_wp2_with (go_at_call 31; (with_reducible refine HC.out.mono ?_); rintro e u1 ⟨rfl, hb⟩; have HB := Lib.hid hb; clear hb)
  go_ret
  exact ⟨_, rfl, HB.out.size, Bk.new _ _ _, HB.out.alloc HB.out.size _⟩
set_option maxRecDepth 100000 in
set_option maxHeartbeats 1000000 in
theorem rlist_ok (u : World) (b a c : Nat) (s : ByteArray) (ids : List Int) (hb : Bk u b 55 (qrc s (some ⟨a, 0, none⟩) ids.length c)) (ho : OI u 0 (some ⟨a, 0, none⟩) c ids) (hf : ids.length ≤ 64) :
    Calls Try.prog 28 #[.pointer (some ⟨b, 0, none⟩)] u fun e u' => ∃ A2 c2, e = .returned (.slice A2 ids.length c2) ∧ OI u' u.heap.size A2 c2 ids ∧ Below u.heap.size u u' := by
  have hC := Try.slices_Clone_int a 0 ids.length c ids u (Nat.le_refl _) (by omega) (fun j hj => ho.cell j hj)
  have hC2 : Calls Try.prog 32 #[.slice (some ⟨a, 0, none⟩) ids.length c] u fun e u' => ∃ A2 c2, e = .returned (.slice A2 ids.length c2) ∧ OI u' u.heap.size A2 c2 ids ∧ Below u.heap.size u u' := hC.mono fun e u' hh => by
    obtain ⟨v', h1, h2, h3, h4⟩ := hh
    rw [List.take_length] at h2
    rcases h2.2 with ⟨e1, _⟩ | ⟨g, cap, cur, e1, r⟩
    · exact absurd e1 h3
    · subst e1
      exact ⟨_, _, h1, h2, h4⟩
  have HC := Lib.hid hC2
  have c1 : u.cell? ⟨b, 1, none⟩ = some (.slice (some ⟨a, 0, none⟩) ids.length c) := hb.cell 1
  obtain ⟨n, hn0⟩ : ∃ n, ids.length = n := ⟨_, rfl⟩
  rw [hn0] at HC c1 ⊢
  clear hb ho hf hC hC2 hn0
  go_enter Try.func28, Try.ntmps28
  go_wp2_with (go_at_call 32; (with_reducible refine HC.out.mono ?_); rintro e u1 ⟨A2, c2, rfl, h1, h2⟩; have HO := Lib.hid h1; have HB := Lib.hid h2; clear h1 h2)
  go_ret
  exact ⟨A2, c2, rfl, HO.out, HB.out⟩
end Go.Proofs.Ytikkiifcnjiegaa

/- A queue in memory; New, Where, List, Many: their contracts. -/
namespace Go.Proofs.Ytikkiifcnjiegaa
set_option linter.unusedVariables false
set_option maxRecDepth 100000
set_option linter.unusedSimpArgs false
open Go.RowKit

/-- At qb lies a queue: its rows' map at mr, its numbers' map at mw; it has rows of the names ns: the row of a name at ad, its numbers at ar. -/
structure Zq (u : World) (qb mr mw : Nat) (ns : List ByteArray) (ad ar cp : ByteArray → Nat) (q : List Qn) : Prop where
  blk : Bk u qb 51 #[.map (some mr), .map (some mw)]
  mr_ : Mq u mr (ns.map fun s => (s, ad s))
  mw_ : Mi u mw (q.map fun x => (x.id, ad x.nm))
  row : ∀ s ∈ ns, Bk u (ad s) 55 (qrc s (some ⟨ar s, 0, none⟩) (liQ q s).length (cp s)) ∧ OI u 0 (some ⟨ar s, 0, none⟩) (cp s) (liQ q s)
  apart : ns.Pairwise (fun s t => ar s ≠ ar t)
  names : ∀ s, s ∈ ns ↔ ∃ x ∈ q, x.nm = s
  ok : Qg q
  two : mr ≠ mw
/-- Its blocks. -/
def ftQ (qb mr mw : Nat) (ns : List ByteArray) (ad ar : ByteArray → Nat) : List Nat := qb :: mr :: mw :: (ns.map ad ++ ns.map ar)
theorem mem_ftQ {qb mr mw k : Nat} {ns : List ByteArray} {ad ar : ByteArray → Nat} : k ∈ ftQ qb mr mw ns ad ar ↔ k = qb ∨ k = mr ∨ k = mw ∨ (∃ s ∈ ns, ad s = k) ∨ ∃ s ∈ ns, ar s = k := by
  unfold ftQ
  simp only [List.mem_cons, List.mem_append, List.mem_map]
theorem nodup_sub_len {α : Type} : ∀ {l m : List α}, l.Nodup → (∀ x ∈ l, x ∈ m) → l.length ≤ m.length := by
  classical
  intro l
  induction l with
  | nil => intro m _ _; exact Nat.zero_le _
  | cons a r ih =>
    intro m h hm
    rw [List.nodup_cons] at h
    have ha := hm a (List.mem_cons_self ..)
    have := ih (m := m.erase a) h.2 (fun x hx => (List.mem_erase_of_ne (by rintro rfl; exact h.1 hx)).2 (hm x (List.mem_cons_of_mem _ hx)))
    rw [List.length_erase_of_mem ha] at this
    have := List.length_pos_of_mem ha
    simp only [List.length_cons]
    omega
theorem pw_one {α β : Type} {f : α → β} : ∀ {l : List α}, l.Pairwise (fun x y => f x ≠ f y) → ∀ {x y : α}, x ∈ l → y ∈ l → f x = f y → x = y
  | [], _, _, _, h, _, _ => by cases h
  | a :: r, hp, x, y, hx, hy, e => by
    obtain ⟨h1, h2⟩ := List.pairwise_cons.1 hp
    rcases List.mem_cons.1 hx with hx1 | hx1
    · subst hx1
      rcases List.mem_cons.1 hy with hy1 | hy1
      · exact hy1.symm
      · exact absurd e (h1 y hy1)
    · rcases List.mem_cons.1 hy with hy1 | hy1
      · subst hy1
        exact absurd e.symm (h1 x hx1)
      · exact pw_one h2 hx1 hy1 e
section
variable {u u' : World} {qb mr mw : Nat} {ns : List ByteArray} {ad ar cp : ByteArray → Nat} {q : List Qn}
theorem Zq.ke {L : List Nat} (h : Zq u qb mr mw ns ad ar cp q) (k : Ke L u u') (hL : ∀ y ∈ ftQ qb mr mw ns ad ar, y ∉ L) : Zq u' qb mr mw ns ad ar cp q :=
  ⟨h.blk.ke k (hL _ (mem_ftQ.2 (.inl rfl))), h.mr_.ke k (hL _ (mem_ftQ.2 (.inr (.inl rfl)))), h.mw_.ke k (hL _ (mem_ftQ.2 (.inr (.inr (.inl rfl))))),
    fun s hs => ⟨(h.row s hs).1.ke k (hL _ (mem_ftQ.2 (.inr (.inr (.inr (.inl ⟨s, hs, rfl⟩)))))), (h.row s hs).2.keep fun g cs hg hh => hh.ke k (by
      simp [Value.ownBlock] at hg
      exact hL g (mem_ftQ.2 (.inr (.inr (.inr (.inr ⟨s, hs, hg⟩))))))⟩, h.apart, h.names, h.ok, h.two⟩
theorem Zq.on (h : Zq u qb mr mw ns ad ar cp q) (hb : Below u.heap.size u u') : Zq u' qb mr mw ns ad ar cp q := h.ke (Ke.of hb) (fun _ _ hx => by cases hx)
theorem Zq.lt (h : Zq u qb mr mw ns ad ar cp q) : ∀ y ∈ ftQ qb mr mw ns ad ar, y < u.heap.size := by
  intro y hy
  rcases mem_ftQ.1 hy with rfl | rfl | rfl | ⟨s, hs, rfl⟩ | ⟨s, hs, rfl⟩
  · exact h.blk.lt
  · exact h.mr_.lt
  · exact h.mw_.lt
  · exact (h.row s hs).1.lt
  · obtain ⟨cs, hc⟩ := (h.row s hs).2.bk
    exact hc.lt
theorem Zq.nd (h : Zq u qb mr mw ns ad ar cp q) : ns.Nodup := (List.pairwise_map (f := fun s => (s, ad s)) (R := fun x y : ByteArray × Nat => x.1 ≠ y.1)).1 h.mr_.ids
theorem Zq.few (h : Zq u qb mr mw ns ad ar cp q) : ns.length ≤ q.length := by
  have := nodup_sub_len (m := q.map (·.nm)) h.nd (fun s hs => by
    obtain ⟨x, hx, e⟩ := (h.names s).1 hs
    exact List.mem_map.2 ⟨x, hx, e⟩)
  simpa using this
theorem Zq.sz (h : Zq u qb mr mw ns ad ar cp q) {s : ByteArray} (hs : s ∈ ns) : s.size ≤ 140737488355328 := h.mr_.wf (s, ad s) (List.mem_map.2 ⟨s, hs, rfl⟩)
theorem Zq.wf (h : Zq u qb mr mw ns ad ar cp q) {x : Qn} (hx : x ∈ q) : WfI x.id := h.mw_.wf (x.id, ad x.nm) (List.mem_map.2 ⟨x, hx, rfl⟩)
/-- Two rows lie apart. -/
theorem Zq.adr (h : Zq u qb mr mw ns ad ar cp q) {s t : ByteArray} (hs : s ∈ ns) (ht : t ∈ ns) (e : ad s = ad t) : s = t := by
  have h1 := (h.row s hs).1
  rw [e] at h1
  have := bk_eq h1 (h.row t ht).1
  simp at this
  exact this.1
theorem Zq.arr (h : Zq u qb mr mw ns ad ar cp q) {s t : ByteArray} (hs : s ∈ ns) (ht : t ∈ ns) (e : ar s = ar t) : s = t := pw_one h.apart hs ht e
end
end Go.Proofs.Ytikkiifcnjiegaa

/- A queue's New, Where, List, Many: their contracts. -/
namespace Go.Proofs.Ytikkiifcnjiegaa
set_option linter.unusedVariables false
set_option maxRecDepth 100000
set_option linter.unusedSimpArgs false
open Go.RowKit

def whN (q : List Qn) (id : Int) : ByteArray := ((whQ q id).map (·.nm)).getD ⟨#[]⟩
section
variable {u u' : World} {qb mr mw : Nat} {ns : List ByteArray} {ad ar cp : ByteArray → Nat} {q : List Qn}
theorem Zq.has (h : Zq u qb mr mw ns ad ar cp q) {x : Qn} (hx : x ∈ q) : x.nm ∈ ns := (h.names _).2 ⟨x, hx, rfl⟩
theorem li_none {q : List Qn} {s : ByteArray} : liQ q s = [] ↔ ¬ ∃ x ∈ q, x.nm = s := by
  constructor
  · rintro h ⟨x, hx, rfl⟩
    have := mem_li hx
    rw [h] at this
    cases this
  · intro h
    cases hl : liQ q s with
    | nil => rfl
    | cons a r =>
      obtain ⟨x, hx, _, e⟩ := li_mem (q := q) (s := s) (id := a) (by rw [hl]; exact List.mem_cons_self ..)
      exact absurd ⟨x, hx, e⟩ h
theorem li_le (q : List Qn) (s : ByteArray) : (liQ q s).length ≤ q.length := by
  unfold liQ
  rw [List.length_map]
  exact List.length_filter_le _ _
set_option maxRecDepth 100000 in
set_option maxHeartbeats 1000000 in
theorem qnew_ok (u : World) : Calls Try.prog 10 #[] u fun e u' => ∃ qb mr mw, e = .returned (.pointer (some ⟨qb, 0, none⟩)) ∧ Zq u' qb mr mw [] (fun _ => 0) (fun _ => 0) (fun _ => 0) [] ∧ Below u.heap.size u u' ∧ ∀ y ∈ ftQ qb mr mw [] (fun _ => 0) (fun _ => 0), u.heap.size ≤ y := by
  have hmm := @run_makeMap Try.prog
  go_enter Try.func10, Try.ntmps10
  go_wp2
  go_ret
  have k1 : Ke [] u (u.alloc (.map #[] 0)) := (Ke.refl _ _).alloc _
  have k2 : Ke [] (u.alloc (.map #[] 0)) ((u.alloc (.map #[] 0)).alloc (.map #[] 0)) := (Ke.refl _ _).alloc _
  have k3 := fun o => (Ke.refl [] ((u.alloc (.map #[] 0)).alloc (.map #[] 0))).alloc o
  have m1 := (((Mq.made u).ke k2 (by simp)).ke (k3 (.cells #[.map (some u.heap.size), .map (some (u.heap.size + 1))] 51)) (by simp))
  have m2 := (Mi.made (u.alloc (.map #[] 0))).ke (k3 (.cells #[.map (some u.heap.size), .map (some (u.heap.size + 1))] 51)) (by simp)
  simp only [World.size_alloc] at m2
  refine ⟨_, u.heap.size, u.heap.size + 1, rfl, ⟨Bk.here (by simp), m1, m2, (fun s hs => by cases hs), .nil, (fun s => by simp), qg_nil, by omega⟩, (((Below.refl _ u).alloc (Nat.le_refl _) _).alloc (by simp) _).alloc (by simp; omega) _, fun y hy => ?_⟩
  simp [ftQ] at hy
  omega
set_option maxRecDepth 100000 in
set_option maxHeartbeats 1000000 in
theorem qwhere_ok (h : Zq u qb mr mw ns ad ar cp q) (id : Int) (hid : WfI id) :
    Calls Try.prog 19 #[.pointer (some ⟨qb, 0, none⟩), .int .i64 id] u fun e u' => e = .returned (.tuple #[.string (whN q id), .bool (whQ q id).isSome]) ∧ u' = u := by
  have c1 : u.cell? ⟨qb, 1, none⟩ = some (.map (some mw)) := h.blk.cell 1
  unfold whN
  cases hw : whQ q id with
  | none =>
    have hl := h.mw_.miss hid (by
      intro x hx e
      obtain ⟨y, hy, rfl⟩ := List.mem_map.1 hx
      exact wh_none hw (List.mem_map.2 ⟨y, hy, e⟩))
    clear h hw
    go_enter Try.func19, Try.ntmps19
    go_wp2
    go_ret2
    exact ⟨rfl, rfl⟩
  | some x =>
    obtain ⟨hx, rfl⟩ := wh_some hw
    have hl := h.mw_.hit (x := (x.id, ad x.nm)) (List.mem_map.2 ⟨x, hx, rfl⟩)
    have c2 : u.cell? ⟨ad x.nm, 0, none⟩ = some (.string x.nm) := (h.row _ (h.has hx)).1.cell 0
    obtain ⟨nm, id⟩ := x
    dsimp only at hl c2 ⊢
    clear h hw hx
    go_enter Try.func19, Try.ntmps19
    go_wp2
    go_ret2
    exact ⟨rfl, rfl⟩
set_option maxRecDepth 100000 in
set_option maxHeartbeats 1000000 in
theorem qlist_ok (h : Zq u qb mr mw ns ad ar cp q) (s : ByteArray) (hs : s.size ≤ 140737488355328) :
    Calls Try.prog 23 #[.pointer (some ⟨qb, 0, none⟩), .string s] u fun e u' => ∃ A c, e = .returned (.slice A (liQ q s).length c) ∧ OI u' u.heap.size A c (liQ q s) ∧ Below u.heap.size u u' := by
  have c0 : u.cell? ⟨qb, 0, none⟩ = some (.map (some mr)) := h.blk.cell 0
  by_cases hn : s ∈ ns
  · have hl := h.mr_.hit (s := s) (b := ad s) (List.mem_map.2 ⟨s, hn, rfl⟩)
    have HL := Lib.hid (rlist_ok u (ad s) (ar s) (cp s) s (liQ q s) (h.row s hn).1 (h.row s hn).2 (Nat.le_trans (h.ok.row s) (by omega)))
    obtain ⟨n, hn0⟩ : ∃ n, (liQ q s).length = n := ⟨_, rfl⟩
    rw [hn0] at HL ⊢
    clear h hn hn0 hs
    go_enter Try.func23, Try.ntmps23
    go_wp2_with (go_at_call 28; (with_reducible refine HL.out.mono ?_); rintro e u1 ⟨A2, c2, rfl, h1, h2⟩; have HO := Lib.hid h1; have HB := Lib.hid h2; clear h1 h2)
    go_ret
    exact ⟨A2, c2, rfl, HO.out, HB.out⟩
  · have hl := h.mr_.miss hs (by
      intro x hx e
      obtain ⟨y, hy, rfl⟩ := List.mem_map.1 hx
      exact hn (by rw [← e]; exact hy))
    have h0 : liQ q s = [] := li_none.2 (fun hh => hn ((h.names s).2 hh))
    rw [h0]
    clear h hn hs h0
    go_enter Try.func23, Try.ntmps23
    go_wp2
    go_ret
    exact ⟨none, 0, rfl, OI.nil _ _, Below.refl _ _⟩
/-- How many there are of the names that are no more to come. -/
def goneQ (q : List Qn) (left : ByteArray → Bool) : List Qn := q.filter fun x => !left x.nm
theorem gone_step {q : List Qn} {left : ByteArray → Bool} {s : ByteArray} (h : left s = true) : (goneQ q fun z => left z && !nmQ z s).length = (goneQ q left).length + (liQ q s).length := by
  unfold goneQ liQ
  rw [List.length_map]
  induction q with
  | nil => rfl
  | cons x r ih =>
    simp only [List.filter_cons]
    by_cases hx : nmQ x.nm s = true
    · have : x.nm = s := (nmQ_iff _ _).1 hx
      simp [this, h, nmQ_same] at ih ⊢
      omega
    · simp only [Bool.not_eq_true] at hx
      cases hl : left x.nm <;> simp [hx, hl] at ih ⊢ <;> omega
set_option maxRecDepth 100000 in
set_option maxHeartbeats 2000000 in
theorem qmany_ok (h : Zq u qb mr mw ns ad ar cp q) :
    Calls Try.prog 21 #[.pointer (some ⟨qb, 0, none⟩)] u fun e u' => e = .returned (.int .i64 (q.length : Int)) ∧ Below u.heap.size u u' := by
  have c0 : u.cell? ⟨qb, 0, none⟩ = some (.map (some mr)) := h.blk.cell 0
  obtain ⟨u1, hrun, hr, hk⟩ := h.mr_.range
  have HR := Lib.hid hr
  have HK := Lib.hid hk
  have HN := Lib.hid h.names
  have HW := Lib.hid (fun s (hs : s ∈ ns) w' (hb : Below u.heap.size u w') => show w'.cell? ⟨ad s, 1, none⟩ = some (.slice (some ⟨ar s, 0, none⟩) (liQ q s).length (cp s)) from ((h.row s hs).1.below hb (h.row s hs).1.lt).cell 1)
  have hq : q.length ≤ 64 := h.ok.few
  have hmr : mr < u.heap.size := h.mr_.lt
  clear h hr hk
  go_enter Try.func21, Try.ntmps21
  go_wp2
  go_loopw [3] (fun v3 wr => ∃ (left : ByteArray → Bool) (cnt m : Nat), v3 = .int .i64 (m : Int) ∧ m ≤ 64 ∧ Hid ((goneQ q left).length = m) ∧ Hid (Rq wr mr u.heap.size (ns.map fun s => (s, ad s)) left cnt) ∧ Hid (Below u.heap.size u wr)) (fun _ wr => wr.rangeLeft mr u.heap.size)
  case atStart =>
    refine ⟨_, _, 0, by first | rfl | simp, by omega, Lib.hid ?_, HR, Lib.hid (HK.out.below (Nat.le_refl _) (by simp))⟩
    unfold goneQ
    rw [List.filter_eq_nil_iff.2]
    · rfl
    · intro x hx
      have : (ns.map fun s => (s, ad s)).any (fun y => nmQ y.1 x.nm) = true := List.any_eq_true.2 ⟨(x.nm, ad x.nm), List.mem_map.2 ⟨x.nm, (HN.out _).2 ⟨x, hx, rfl⟩, rfl⟩, nmQ_same _⟩
      simp only [this]
      simp
  case round =>
    obtain ⟨left, cnt, m, rfl, hm, HG, HR2, HB⟩ := hrel
    go_wp2_with (at_next; refine wpList_next_q HR2.out rfl _ rfl rfl ?_ ?_)
    · intro HL
      have HE := Lib.hid (show q.length = m by
        rw [← HG.out]
        unfold goneQ
        rw [List.filter_eq_self.2 (fun x hx => by simp [HL.out])])
      go_wp2
      go_ret
      exact ⟨by rw [HE.out]; rfl, HB.out⟩
    · intro s d w1 cnt1 HX hen
      obtain ⟨⟨hx, hl⟩, hr1, hlt, hk1⟩ := HX.out
      have hs : s ∈ ns ∧ ad s = d := by
        obtain ⟨s', h1, h2⟩ := List.mem_map.1 (show (s, d) ∈ _ from hx)
        injection h2 with h2 h3
        subst h2
        exact ⟨h1, h3⟩
      obtain ⟨hs, rfl⟩ := hs
      have HB1 := Lib.hid (show Below u.heap.size u w1 from HB.out.trans (hk1.below HB.out.size (by simp)))
      have c1 := HW.out s hs w1 HB1.out
      have hst := gone_step (q := q) hl
      rw [HG.out] at hst
      have hle : (goneQ q fun z => left z && !nmQ z s).length ≤ q.length := List.length_filter_le _ _
      obtain ⟨n, hn⟩ : ∃ n, (liQ q s).length = n := ⟨_, rfl⟩
      rw [hn] at hst c1
      obtain ⟨m2, hm2⟩ : ∃ m2, m + n = m2 := ⟨_, rfl⟩
      have HG1 := Lib.hid (show (goneQ q fun z => left z && !nmQ z s).length = m2 by rw [hst, hm2])
      have hw : IntKind.i64.wrap ((m : Int) + (n : Int)) = (m2 : Int) := (iwrap _ m2 (by omega) (by omega)).1
      have hm3 : m2 ≤ 64 := by omega
      have HR3 := Lib.hid hr1
      have HLT := Lib.hid hlt
      clear hst hle hn hm2 hx hl hr1 hk1 hs hlt HX
      go_wp2
      go_roundw
      case rel => exact ⟨_, cnt1, m2, by first | rfl | go_num, hm3, HG1, HR3, HB1⟩
      case measure => rw [HR3.out.left_eq, HR2.out.left_eq]; exact HLT.out
end
end Go.Proofs.Ytikkiifcnjiegaa
