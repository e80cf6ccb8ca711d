/- The document's own book of tickets: its memory; New, drop, Void: their contracts. (Begun in round 14, in a seat of the document's own book alone.) -/
import Derived.Test.YtinbegnojfpeiaaDoorG1
import Derived.Test.YtinbegnojfpeiaaDoorG8
import Derived.BigQuiet
import Derived.BigRegion
import Derived.Deep.RegionLaw
import Derived.Deep.Cut
namespace Go.Proofs.YtinbegnojfpeiaaDoor
set_option linter.unusedVariables false
set_option maxRecDepth 100000
set_option linter.unusedSimpArgs false
open Go.RowKit

abbrev pcs (p : Ps) : Array Value := #[.int .i64 p.vis, .string p.nm, .string p.ten, .int .i64 p.ep]
abbrev tkc (x : Tk5) : Array Value := #[.string x.tx, .int .i64 x.p.vis, .string x.p.nm, .string x.p.ten, .int .i64 x.p.ep]
theorem roT5 : Ro Tryd.prog 42 62 5 64 tkc := ⟨Tryd.underlying42, (by
  obtain ⟨i, h1, h2, h3, h4⟩ := info_parts (show (Tryd.prog.info? 62).map (fun i => (i.zero, i.size, i.bytes)) = some (some (.agg #[.string ByteArray.empty, .int .i64 0, .string ByteArray.empty, .string ByteArray.empty, .int .i64 0]), 5, 64) by kernel_rfl)
  exact ⟨i, _, h1, h2, h3, h4, rfl⟩), by omega, fun _ => rfl, (fun x u hu => by simp at hu; rcases hu with rfl | rfl | rfl | rfl | rfl <;> rfl), by omega⟩
/-- At db lies the document's book, in the blocks H. -/
structure Dt (W u : World) (H : List Nat) (db : Nat) (key : ByteArray) (b : Bt) : Prop where
  ex : ∃ A c, Bk u db 44 #[.string key, .int .i64 b.se, .slice A b.l.length c] ∧ Ow 62 5 tkc u W.heap.size A c b.l ∧ ∀ g, (Value.slice A b.l.length c).ownBlock = some g → g ∈ H
  db : db ∈ H
  l : Below W.heap.size W u
  lo : ∀ y ∈ H, W.heap.size ≤ y
  hi : ∀ y ∈ H, y < u.heap.size
section
variable {W u u' : World} {H H' : List Nat} {db : Nat} {key : ByteArray} {b b' : Bt}
theorem Dt.ke {L : List Nat} (h : Dt W u H db key b) (k : Ke L u u') (hL : ∀ y ∈ H, y ∉ L) (hb : Below W.heap.size W u') : Dt W u' H db key b := by
  obtain ⟨A, c, h1, h2, h3⟩ := h.ex
  refine ⟨⟨A, c, h1.ke k (hL _ h.db), ?_, h3⟩, h.db, hb, h.lo, fun y hy => Nat.lt_of_lt_of_le (h.hi y hy) k.size⟩
  refine ⟨h2.1, ?_⟩
  rcases h2.2 with hn | ⟨g, cap, cur, hv, hg, hh, r⟩
  · exact .inl hn
  · exact .inr ⟨g, cap, cur, hv, hg, (show Bk u g _ _ from hh).ke k (hL g (h3 g (by rw [hv]; rfl))), r⟩
theorem Dt.on (h : Dt W u H db key b) (hb : Below u.heap.size u u') : Dt W u' H db key b := h.ke (Ke.of hb) (fun _ _ hx => by cases hx) (h.l.trans (hb.mono h.l.size))
/-- One good ticket. -/
theorem row5 {w : World} {A : Option Addr} {l : List Tk5} (h : Rw 5 tkc w A l) (i : Nat) (hi : i < l.length) :
    ∃ b o x, A = some ⟨b, o, none⟩ ∧ l[i]? = some x ∧ ∀ u, Below w.heap.size w u → u.cell? ⟨b, o + i * 5, none⟩ = some (.string x.tx) ∧ u.cell? ⟨b, o + i * 5 + 1, none⟩ = some (.int .i64 x.p.vis) ∧ u.cell? ⟨b, o + i * 5 + 2, none⟩ = some (.string x.p.nm) ∧ u.cell? ⟨b, o + i * 5 + 3, none⟩ = some (.string x.p.ten) ∧ u.cell? ⟨b, o + i * 5 + 4, none⟩ = some (.int .i64 x.p.ep) := by
  obtain ⟨b, o, x, h1, h2, h3⟩ := Rw.at_ h i hi
  exact ⟨b, o, x, h1, h2, fun u hb => ⟨h3 u hb 0 (by omega), h3 u hb 1 (by omega), h3 u hb 2 (by omega), h3 u hb 3 (by omega), h3 u hb 4 (by omega)⟩⟩
end
/-- Where row[lo:] lies, of rows of k cells. -/
def tailK (k : Nat) (A : Option Addr) (c lo : Nat) : Option Addr := if c = lo then A else A.map (·.add (lo * k))
theorem tailK_none {k : Nat} {A : Option Addr} {c lo : Nat} (h : tailK k A c lo = none) : A = none := by
  unfold tailK at h
  split at h
  · exact h
  · cases A with
    | none => rfl
    | some a => cases h
theorem Rw.frontK {β : Type} {k : Nat} {f : β → Array Value} {w : World} {A : Option Addr} {l : List β} (h : Rw k f w A l) (n : Nat) : Rw k f w A (l.take n) := by
  rcases h with h | ⟨b, o, e, hb, hc⟩
  · left; rw [h]; simp
  · exact .inr ⟨b, o, e, hb, fun i hi j hj => by
      have hi' : i < l.length := by rw [List.length_take] at hi; omega
      rw [hc i hi' j hj, List.getElem_take]⟩
theorem Rw.tailK {β : Type} {k : Nat} {f : β → Array Value} {w : World} {A : Option Addr} {l : List β} {c : Nat} (h : Rw k f w A l) (lo : Nat) (hc : l.length ≤ c) : Rw k f w (Proofs.YtinbegnojfpeiaaDoor.tailK k A c lo) (l.drop lo) := by
  by_cases h0 : l.drop lo = []
  · left; exact h0
  · have hlo : lo < l.length := by
      rcases Nat.lt_or_ge lo l.length with h1 | h1
      · exact h1
      · exact absurd (List.drop_of_length_le h1) h0
    rcases h with h | ⟨b, o, e, hb, hcl⟩
    · rw [h] at hlo; simp at hlo
    · subst e
      have e2 : Proofs.YtinbegnojfpeiaaDoor.tailK k (some ⟨b, o, none⟩) c lo = some ⟨b, o + lo * k, none⟩ := by
        unfold Proofs.YtinbegnojfpeiaaDoor.tailK
        rw [if_neg (by omega)]
        simp only [Option.map_some, Addr.add_lit]
      rw [e2]
      refine .inr ⟨b, o + lo * k, rfl, hb, fun i hi j hj => ?_⟩
      have hi' : lo + i < l.length := by rw [List.length_drop] at hi; omega
      have := hcl (lo + i) hi' j hj
      rw [show o + lo * k + i * k + j = o + (lo + i) * k + j by rw [Nat.add_mul]; omega, this, List.getElem_drop]
theorem tslice_from (A : Option Addr) (n c lo : Nat) (h : lo ≤ n) (hc : n ≤ c) (u : World) : (Instr.sliceAt 42 (.slice A n c) (some (.int .i64 (lo : Int))) none none).run Tryd.prog u = .ok (.slice (tailK 5 A c lo) (n - lo) (c - lo)) u := by
  have h1 : (lo : Int) ≤ (n : Int) := by omega
  have h2 : (n : Int) ≤ (c : Int) := by omega
  unfold tailK
  go_simp
theorem tslice_to (A : Option Addr) (n c hi : Nat) (h : hi ≤ n) (hc : n ≤ c) (u : World) : (Instr.sliceAt 42 (.slice A n c) none (some (.int .i64 (hi : Int))) none).run Tryd.prog u = .ok (.slice A hi c) u := by
  have h1 : (hi : Int) ≤ (n : Int) := by omega
  have h2 : (hi : Int) ≤ (c : Int) := by omega
  go_simp
/-- append of rows, as one step of a region that draws. -/
theorem step_rows {β : Type} {P : Program} {t e : TypeId} {k by_ : Nat} {f : β → Array Value} {w : World} {B : Nat} {A : Option Addr} {c : Nat} {l : List β} (R : Ro P t e k by_ f) {ops : Array Oper} {o : Oper} {a : Act} {K : Act → World → Prop} {Q : Exit → Act → World → Prop} {E : Prop} (hg : o.guard = none) (s x : Operand)
    (ho : o.op = .call { callee := .builtin .append, args := #[s, x], argTypes := #[t, t] }) (n : Nat) (hs : a.eval s = .slice A n c) (hn : l.length = n) (hown : Ow e k f w B A c l)
    (M : List β) (A' : Option Addr) (m c' : Nat) (hx : a.eval x = .slice A' m c') (hm : M.length = m) (hnil : A' = none → m = 0 ∧ c' = 0) (hR : Rw k f w A' M)
    (hlen : n + m ≤ 1099511627776) (hbase : B ≤ w.heap.size) (s' : Nat) (hsum : n + m = s')
    (h : ∀ A2 c2 w', Hid (Ow e k f w' B A2 c2 (l ++ M) ∧ Below B w w') → K (a.put o.dst (.slice A2 s' c2)) w') : if Region.wanted o (yielded ops a.tmps) = true then o.wp P a w K Q else E := by
  have hw : Region.wanted o (yielded ops a.tmps) = true := by simp [Region.wanted, hg]
  rw [if_pos hw]
  exact op_rows R s x ho n hs hn hown M A' m c' hx hm hnil hR hlen hbase s' hsum (fun A2 c2 w' h1 _ h2 => h A2 c2 w' (Lib.hid ⟨h1, h2⟩))
section
variable {W u u' : World} {H H' : List Nat} {db : Nat} {key : ByteArray} {b b' : Bt}
set_option maxRecDepth 100000 in
set_option maxHeartbeats 1000000 in
theorem t_new (h : Below W.heap.size W u) (key : ByteArray) : Calls Tryd.prog 11 #[.string key] u fun e u' => ∃ H db, e = .returned (.pointer (some ⟨db, 0, none⟩)) ∧ Dt W u' H db key ⟨0, []⟩ ∧ Below u.heap.size u u' ∧ ∀ y ∈ H, u.heap.size ≤ y := by
  have HB := Lib.hid h
  have hs := h.size
  go_enter Tryd.func11, Tryd.ntmps11
  go_wp2
  go_ret
  have hb := (Below.refl u.heap.size u).alloc (Nat.le_refl _) (.cells #[.string key, .int .i64 0, .slice none 0 0] 44)
  exact ⟨[u.heap.size], u.heap.size, rfl, ⟨⟨none, 0, Bk.new _ _ _, Ow.nil _ _, fun g hg => by cases hg⟩, by simp, HB.out.trans (hb.mono hs), (fun y hy => by rw [List.mem_singleton.1 hy]; exact hs), (fun y hy => by rw [List.mem_singleton.1 hy, World.size_alloc]; omega)⟩, hb, fun y hy => by rw [List.mem_singleton.1 hy]; exact Nat.le_refl _⟩
/-- The book's row is a new one. -/
theorem t_dropped (h : Dt W u H db key b) {w : World} {l : List Tk5} {n2 c9 : Nat} {A9 : Option Addr} (hb : Below u.heap.size u w) {n c : Nat} {A : Option Addr} {se : Int} (hd : Bk w db 44 #[.string key, .int .i64 se, .slice A n c]) (hl : l.length = n2) (ho : Ow 62 5 tkc w u.heap.size A9 c9 l) :
    ∃ H', Dt W (w.setCell ⟨db, 2, none⟩ (.slice A9 n2 c9)) H' db key ⟨se, l⟩ ∧ Sp u (w.setCell ⟨db, 2, none⟩ (.slice A9 n2 c9)) H H' := by
  have hs : Sp u (w.setCell ⟨db, 2, none⟩ (.slice A9 n2 c9)) H (db :: ((Value.slice A9 n2 c9).ownBlock).toList) := by
    refine ⟨((Ke.of hb).nil).set (p := ⟨db, 2, none⟩) h.db _, fun y hy => ?_⟩
    rcases List.mem_cons.1 hy with e | e
    · rw [e]; exact .inl h.db
    · have hy2 : (Value.slice A9 n2 c9).ownBlock = some y := by simpa using e
      exact .inr (Ow.block ho n2 y hy2).1
  have hWs := h.l.size
  refine ⟨db :: ((Value.slice A9 n2 c9).ownBlock).toList, ⟨⟨A9, c9, ?_, ?_, fun g hg => ?_⟩, List.mem_cons_self .., h.l.trans (hs.k.below h.l.size h.lo), fun y hy => ?_, fun y hy => ?_⟩, hs⟩
  · rw [hl]; exact hd.set 2 _
  · refine ⟨ho.1, ?_⟩
    rcases ho.2 with hn | ⟨g, cap, cur, hv, hg, hh, r⟩
    · exact .inl hn
    · refine .inr ⟨g, cap, cur, hv, Nat.le_trans hWs hg, (show Bk w g _ _ from hh).far (fun e => ?_) _, r⟩
      have h1 : w.heap[db]? = some (.cells #[.string key, .int .i64 se, .slice A n c] 44 (0, 0)) := hd
      rw [show g = db from e] at hh
      rw [h1] at hh
      injection hh with hh
      injection hh with _ hh
      exact absurd hh (by decide)
  · rw [hl] at hg
    rw [hg]; simp
  · rcases hs.g y hy with e | e
    · exact h.lo y e
    · exact Nat.le_trans hWs e
  · have hsz : w.heap.size ≤ (w.setCell ⟨db, 2, none⟩ (.slice A9 n2 c9)).heap.size := by simp [World.setCell]
    rcases List.mem_cons.1 hy with e | e
    · rw [e]; exact Nat.lt_of_lt_of_le hd.lt hsz
    · have hy2 : (Value.slice A9 n2 c9).ownBlock = some y := by simpa using e
      exact Nat.lt_of_lt_of_le (Ow.block ho n2 y hy2).2.1 hsz
set_option maxRecDepth 100000 in
set_option maxHeartbeats 8000000 in
theorem t_drop (h : Dt W u H db key b) (i : Nat) (hi : i < b.l.length) (hf : b.l.length ≤ 64) :
    Calls Tryd.prog 24 #[.pointer (some ⟨db, 0, none⟩), .int .i64 (i : Int)] u fun e u' => ∃ H', e = .returned (.tuple #[]) ∧ Dt W u' H' db key ⟨b.se, b.l.take i ++ b.l.drop (i + 1)⟩ ∧ Sp u u' H H' := by
  obtain ⟨A, c, h1, h2, h3⟩ := h.ex
  obtain ⟨n, hn⟩ : ∃ n, b.l.length = n := ⟨_, rfl⟩
  obtain ⟨j, hj⟩ : ∃ j, i + 1 = j := ⟨_, rfl⟩
  have HJ := Lib.hid hj
  have hcap : n ≤ c := by rw [← hn]; exact (Ow.fit h2).cap
  have hRW := Ow.rw_ (f := tkc) (k := 5) (fun _ => rfl) h2
  have hAn : A ≠ none := fun e => by
    have := (Ow.fit h2).nil_ e
    omega
  rw [hn] at hi hf h1
  have HZ := Lib.hid h
  have HS1 := Lib.hid (fun w => tslice_to A n c i (by omega) hcap w)
  have HS2 := Lib.hid (fun w => tslice_from A n c j (by omega) hcap w)
  have hw : IntKind.i64.wrap ((i : Int) + 1) = (j : Int) := (iwrap _ j (by omega) (by omega)).1
  have HR1 := Lib.hid (show ∀ w, Below u.heap.size u w → Rw 5 tkc w A (b.l.take i) from fun w hb => (hRW.on hb).frontK i)
  have HR2 := Lib.hid (show ∀ w, Below u.heap.size u w → Rw 5 tkc w (tailK 5 A c j) (b.l.drop j) from fun w hb => (hRW.on hb).tailK j (by rw [hn]; exact hcap))
  have HL1 := Lib.hid (show (b.l.take i).length = i by rw [List.length_take]; omega)
  have HL2 := Lib.hid (show (b.l.drop j).length = n - j by rw [List.length_drop, hn])
  have HN := Lib.hid (And.intro (show A = none → i = 0 ∧ c = 0 from fun e => absurd e hAn) (show tailK 5 A c j = none → n - j = 0 ∧ c - j = 0 from fun e => absurd (tailK_none e) hAn))
  have HBK := Lib.hid (fun w (hb : Below u.heap.size u w) => h1.below hb h1.lt)
  have HE := Lib.hid (show Ow 62 5 tkc ((u.alloc (.cells #[] 62)).drew) u.heap.size (some ⟨u.heap.size, 0, none⟩) 0 [] from World.ownsRow_made (base := u.heap.size) (e := 62) (size := 5) u #[] 0 (Nat.le_refl _) (by unfold maxLen; omega) (by simp))
  have HB1 := Lib.hid (show Below u.heap.size u ((u.alloc (.cells #[] 62)).drew) from ((Below.refl _ _).alloc (Nat.le_refl _) _).drew)
  have c2 : u.cell? ⟨db, 2, none⟩ = some (.slice A n c) := h1.cell 2
  have c2a : (u.alloc (.cells #[] 62)).cell? ⟨db, 2, none⟩ = some (.slice A n c) := (HBK.out _ HB1.out).cell 2
  have hs1 := HS1.out
  have hs2 := HS2.out
  generalize tailK 5 A c j = T at hs2 HR2 HN
  obtain ⟨d1, hd1⟩ : ∃ d1, n - j = d1 := ⟨_, rfl⟩
  obtain ⟨e1, he1⟩ : ∃ e1, c - j = e1 := ⟨_, rfl⟩
  obtain ⟨n2, hn2⟩ : ∃ n2, i + d1 = n2 := ⟨_, rfl⟩
  rw [hd1, he1] at hs2 HN
  rw [hd1] at HL2
  have hij : (i : Int) ≤ (n : Int) := by omega
  have hic : (i : Int) ≤ (c : Int) := by omega
  have hjn : (j : Int) ≤ (n : Int) := by omega
  have hjc : (j : Int) ≤ (c : Int) := by omega
  have hncc : (n : Int) ≤ (c : Int) := by omega
  have hd64 : d1 ≤ 64 := by omega
  have HL3 := Lib.hid (show (b.l.take i ++ b.l.drop j).length = n2 by rw [List.length_append, HL1.out, HL2.out, hn2])
  clear h h1 h2 h3 hn hRW hAn hd1 he1
  go_enter Tryd.func24, Tryd.ntmps24
  go_upto_region 0 with fail
  go_region_law (first
    | (refine step_rows roT5 rfl (.tmp 5) (.tmp 11) rfl 0 rfl rfl HE.out (b.l.take i) A i c rfl HL1.out HN.out.1 (HR1.out _ HB1.out) (by omega) HB1.out.size i (by omega) ?_; intro A8 c8 w8 HA8; have c8a : w8.cell? ⟨db, 2, none⟩ = some (.slice A n c) := (HBK.out _ (HB1.out.trans HA8.out.2)).cell 2)
    | (refine step_rows roT5 rfl (.tmp 12) (.tmp 19) rfl i rfl HL1.out (by have := HA8.out.1; rwa [List.nil_append] at this) (b.l.drop j) T d1 e1 rfl HL2.out HN.out.2 (HR2.out _ (HB1.out.trans HA8.out.2)) (by omega) (HB1.out.trans HA8.out.2).size n2 (by omega) ?_; intro A9 c9 w9 HA9; have hbk9 := HBK.out _ ((HB1.out.trans HA8.out.2).trans HA9.out.2); have c9a : w9.cell? ⟨db, 2, none⟩ = some (.slice A n c) := hbk9.cell 2; have f9 := hbk9.frozen 2; clear hbk9))
  all_goals
    go_wp2
    go_end0
    have hB9 := (HB1.out.trans HA8.out.2).trans HA9.out.2
    have hD9 := HBK.out _ hB9
    have ho9 := HA9.out.1
    have hWs := HZ.out.l.size
    obtain ⟨H', z1, z2⟩ := t_dropped HZ.out hB9 hD9 HL3.out ho9
    rw [← HJ.out] at z1
    exact ⟨H', rfl, z1, z2⟩
end
end Go.Proofs.YtinbegnojfpeiaaDoor
