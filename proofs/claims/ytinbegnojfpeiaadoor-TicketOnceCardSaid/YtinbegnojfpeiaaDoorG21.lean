/- OwUpd, TcO: texts of this seat, one behind the other. -/
import Derived.Test.YtinbegnojfpeiaaDoorG7
import Derived.Test.YtinbegnojfpeiaaDoorTcH
/- One cell of a row turned. Nothing of the program is named here. -/
namespace Go.Proofs.YtinbegnojfpeiaaDoor
set_option linter.unusedVariables false
set_option maxRecDepth 100000
set_option linter.unusedSimpArgs false
open Go.RowKit

theorem fl_set {β : Type} {k : Nat} {f : β → Array Value} (hf : ∀ x, (f x).size = k) (T : List β) (y y' : β) (j : Nat) (hj : j < k) (v : Value) (hv : f y' = (f y).setIfInBounds j v) : fl f (T ++ [y']) = (fl f (T ++ [y])).set (T.length * k + j) v := by
  rw [fl_app, fl_app, List.set_append_right _ _ (by rw [fl_length hf]; omega), fl_length hf, Nat.add_sub_cancel_left]
  simp [fl, hv]
theorem fl_upd {β : Type} {k : Nat} {f : β → Array Value} (hf : ∀ x, (f x).size = k) (T R : List β) (y y' : β) (j : Nat) (hj : j < k) (v : Value) (hv : f y' = (f y).setIfInBounds j v) : fl f (T ++ y' :: R) = (fl f (T ++ y :: R)).set (T.length * k + j) v := by
  have h1 := fl_set hf T y y' j hj v hv
  have e1 : T ++ y' :: R = (T ++ [y']) ++ R := by simp
  have e2 : T ++ y :: R = (T ++ [y]) ++ R := by simp
  rw [e1, e2, fl_app, fl_app f (T ++ [y]), h1, List.set_append_left]
  rw [fl_length hf, List.length_append, List.length_singleton, Nat.add_mul, Nat.one_mul]
  omega
/-- One cell of a row turned. -/
theorem Ow.upd {β : Type} {k : Nat} {f : β → Array Value} {e : TypeId} {u : World} {B g c : Nat} {T R : List β} {y : β} (hf : ∀ x, (f x).size = k) (h : Ow e k f u B (some ⟨g, 0, none⟩) c (T ++ y :: R)) (y' : β) (j : Nat) (hj : j < k) (v : Value) (hv : f y' = (f y).setIfInBounds j v) :
    Ow e k f (u.setCell ⟨g, T.length * k + j, none⟩ v) B (some ⟨g, 0, none⟩) c (T ++ y' :: R) := by
  have := (World.ownsRow.stored h (T.length * k + j) v).1
  unfold Ow
  rw [fl_upd hf T R y y' j hj v hv]
  simpa using this

end Go.Proofs.YtinbegnojfpeiaaDoor

/- TicketOnce: what its loops come to; the rows of the law's own. -/
namespace Go.Proofs.YtinbegnojfpeiaaDoor
set_option linter.unusedVariables false
set_option maxRecDepth 100000
set_option linter.unusedSimpArgs false
open Go.RowKit

/-- The first one that fits, from a place on; -1: none. -/
def fnL (s : ByteArray) : List On5 → Nat → Int
  | [], _ => -1
  | e :: r, j => if hitO s e = true then (j : Int) else fnL s r (j + 1)
theorem fn_step {s : ByteArray} {E : List On5} {j : Nat} {e : On5} (h : E[j]? = some e) : fnL s (E.drop j) j = if hitO s e = true then (j : Int) else fnL s (E.drop (j + 1)) (j + 1) := by
  obtain ⟨h1, h2⟩ := List.getElem?_eq_some_iff.1 h
  rw [List.drop_eq_getElem_cons h1, h2]
  rfl
theorem fn_no {s : ByteArray} : ∀ {E : List On5} {j : Nat}, (∀ e ∈ E, hitO s e = false) → fnL s E j = -1
  | [], _, _ => rfl
  | e :: r, j, h => by
    unfold fnL
    rw [if_neg (by rw [h e (List.mem_cons_self ..)]; simp)]
    exact fn_no (fun y hy => h y (List.mem_cons_of_mem _ hy))
theorem fn_at {s : ByteArray} : ∀ {E : List On5} {j k : Nat} {e : On5}, E[k]? = some e → (∀ y ∈ E.take k, hitO s y = false) → hitO s e = true → fnL s E j = ((j + k : Nat) : Int)
  | [], j, k, e, h, _, _ => by simp at h
  | a :: r, j, 0, e, h, _, he => by
    simp at h
    subst h
    unfold fnL
    rw [if_pos he]
    rfl
  | a :: r, j, k + 1, e, h, h0, he => by
    unfold fnL
    rw [if_neg (by rw [h0 a (by simp)]; simp), fn_at (E := r) (j := j + 1) (k := k) (by simpa using h) (fun y hy => h0 y (by simp [hy])) he]
    congr 1
    omega
/-- It is there, or not. -/
theorem hit_cases (s : ByteArray) (E : List On5) : (∀ e ∈ E, hitO s e = false) ∨ ∃ k e, E[k]? = some e ∧ (∀ y ∈ E.take k, hitO s y = false) ∧ hitO s e = true := by
  cases hf : E.findIdx? (hitO s) with
  | none => exact .inl (List.findIdx?_eq_none_iff.1 hf)
  | some i =>
    obtain ⟨hi, h1, h2⟩ := List.findIdx?_eq_some_iff_getElem.1 hf
    exact .inr ⟨i, E[i], List.getElem?_eq_getElem hi, fun y hy => by
      obtain ⟨j, hj, rfl⟩ := List.mem_take_iff_getElem.1 hy
      simpa using h2 j (by omega), h1⟩
/-- Void's loop, up to a place. -/
def ofE (v : Int) (E : List On5) (k : Nat) : List On5 := (E.take k).map (offO v) ++ E.drop k
theorem ofE_0 (v : Int) (E : List On5) : ofE v E 0 = E := by simp [ofE]
theorem ofE_all (v : Int) (E : List On5) {k : Nat} (h : E.length ≤ k) : ofE v E k = E.map (offO v) := by
  unfold ofE
  rw [List.take_of_length_le h, List.drop_of_length_le h, List.append_nil]
theorem ofE_len (v : Int) (E : List On5) (k : Nat) : (ofE v E k).length = E.length := by
  unfold ofE
  rw [List.length_append, List.length_map, List.length_take, List.length_drop]
  omega
theorem ofE_at {v : Int} {E : List On5} {k : Nat} {e : On5} (h : E[k]? = some e) : (ofE v E k)[k]? = some e := by
  obtain ⟨h1, h2⟩ := List.getElem?_eq_some_iff.1 h
  unfold ofE
  rw [List.getElem?_append_right (by rw [List.length_map, List.length_take]; omega), List.length_map, List.length_take, Nat.min_eq_left (by omega), Nat.sub_self, List.getElem?_drop, Nat.add_zero, h]
theorem ofE_succ {v : Int} {E : List On5} {k : Nat} {e : On5} (h : E[k]? = some e) : ofE v E (k + 1) = (E.take k).map (offO v) ++ offO v e :: E.drop (k + 1) ∧ ofE v E k = (E.take k).map (offO v) ++ e :: E.drop (k + 1) := by
  obtain ⟨h1, h2⟩ := List.getElem?_eq_some_iff.1 h
  unfold ofE
  constructor
  · rw [List.take_add_one, h, List.map_append, List.append_assoc]
    rfl
  · rw [List.drop_eq_getElem_cons h1, h2]
/-- The one at this place is no good any more. -/
theorem ofE_hit {v : Int} {E : List On5} {k : Nat} {e : On5} (h : E[k]? = some e) (ho : e.ok = true) (hv : e.p.vis = v) : offO v e = ⟨e.tx, e.p, false⟩ ∧ (goodL (ofE v E (k + 1))).length + 1 = (goodL (ofE v E k)).length := by
  have h1 : offO v e = ⟨e.tx, e.p, false⟩ := by unfold offO; rw [if_pos (by rw [ho, hv]; simp)]
  refine ⟨h1, ?_⟩
  obtain ⟨e1, e2⟩ := ofE_succ (v := v) h
  rw [e1, e2, h1, goodL_app, goodL_app]
  have g1 : goodL (e :: E.drop (k + 1)) = ⟨e.tx, e.p⟩ :: goodL (E.drop (k + 1)) := by unfold goodL; rw [List.filter_cons, if_pos ho, List.map_cons]
  have g2 : goodL (⟨e.tx, e.p, false⟩ :: E.drop (k + 1)) = goodL (E.drop (k + 1)) := by unfold goodL; rw [List.filter_cons, if_neg (by simp)]
  rw [g1, g2, List.length_append, List.length_append, List.length_cons]
  omega
theorem ofE_miss {v : Int} {E : List On5} {k : Nat} {e : On5} (h : E[k]? = some e) (hv : (e.ok && e.p.vis == v) = false) : ofE v E (k + 1) = ofE v E k := by
  obtain ⟨e1, e2⟩ := ofE_succ (v := v) h
  have h1 : offO v e = e := by unfold offO; rw [if_neg (by rw [hv]; simp)]
  rw [e1, e2, h1]
theorem goodL_mem {E : List On5} {e : On5} (h : e ∈ E) (ho : e.ok = true) : (⟨e.tx, e.p⟩ : Tk5) ∈ goodL E := List.mem_map.2 ⟨e, List.mem_filter.2 ⟨h, ho⟩, rfl⟩
/-- Void, of a book with those tickets. -/
theorem once_voi {se : Int} {E : List On5} (h : Gk ⟨se, goodL E⟩) (v : Int) : (voiT ⟨se, goodL E⟩ v).2 = ⟨se, goodL (E.map (offO v))⟩ := by
  unfold voiT
  dsimp only
  rw [erase_vis h.nd, good_off]
theorem once_hit {se : Int} {E : List On5} {v : Int} {k : Nat} {e : On5} (h : E[k]? = some e) (ho : e.ok = true) (hv : e.p.vis = v) : (voiT ⟨se, goodL E⟩ v).1 = true := by
  unfold voiT
  exact List.any_eq_true.2 ⟨⟨e.tx, e.p⟩, goodL_mem (List.mem_of_getElem? h) ho, by unfold visT; simpa using hv⟩
/-- The law's rows and its book. -/
structure So5 (W u : World) (H : List Nat) (tb : Nat) (key : ByteArray) (se : Int) (E : List On5) (A1 : Option Addr) (c1 : Nat) (A2 : Option Addr) (c2 : Nat) (A3 : Option Addr) (c3 : Nat) : Prop where
  r1 : Lrk 9 1 tsv W u H A1 c1 (E.map (·.tx))
  r2 : Lrk 31 4 pcs W u H A2 c2 (E.map (·.p))
  r3 : Lrk 4 1 tbv W u H A3 c3 (E.map (·.ok))
section
variable {W u u' : World} {H H' : List Nat} {tb : Nat} {key : ByteArray} {se : Int} {E : List On5} {A1 A2 A3 : Option Addr} {c1 c2 c3 : Nat}
theorem So5.step (h : So5 W u H tb key se E A1 c1 A2 c2 A3 c3) (s : Sp u u' H H') : So5 W u' H' tb key se E A1 c1 A2 c2 A3 c3 := ⟨h.r1.step s, h.r2.step s, h.r3.step s⟩
theorem So5.on (h : So5 W u H tb key se E A1 c1 A2 c2 A3 c3) (hb : Below u.heap.size u u') : So5 W u' H tb key se E A1 c1 A2 c2 A3 c3 := ⟨h.r1.on hb, h.r2.on hb, h.r3.on hb⟩
/-- What stands at a place. -/
theorem So5.at_ (h : So5 W u H tb key se E A1 c1 A2 c2 A3 c3) (k : Nat) (hk : k < E.length) : ∃ e b1 o1 b2 o2 b3, E[k]? = some e ∧ A1 = some ⟨b1, o1, none⟩ ∧ A2 = some ⟨b2, o2, none⟩ ∧ A3 = some ⟨b3, 0, none⟩ ∧ (∃ cs, Bk u b3 4 cs) ∧
    ∀ w, Below u.heap.size u w → w.cell? ⟨b1, o1 + k, none⟩ = some (.string e.tx) ∧ w.cell? ⟨b2, o2 + k * 4, none⟩ = some (.int .i64 e.p.vis) ∧ w.cell? ⟨b2, o2 + k * 4 + 1, none⟩ = some (.string e.p.nm) ∧ w.cell? ⟨b2, o2 + k * 4 + 2, none⟩ = some (.string e.p.ten) ∧ w.cell? ⟨b2, o2 + k * 4 + 3, none⟩ = some (.int .i64 e.p.ep) ∧ w.cell? ⟨b3, k, none⟩ = some (.bool e.ok) := by
  obtain ⟨e, he⟩ : ∃ e, E[k]? = some e := ⟨_, List.getElem?_eq_getElem hk⟩
  obtain ⟨b1, o1, x1, h1, h2, h3⟩ := Rw.at_ (show Rw 1 tsv u A1 (E.map (·.tx)) from Ow.rw_ (fun _ => rfl) h.r1.o) k (by rw [List.length_map]; exact hk)
  obtain ⟨b2, o2, x2, h4, h5, h6⟩ := Rw.at_ (show Rw 4 pcs u A2 (E.map (·.p)) from Ow.rw_ (fun _ => rfl) h.r2.o) k (by rw [List.length_map]; exact hk)
  obtain ⟨g3, cap3, hv3, _, _⟩ := World.ownsRow.form h.r3.o (by rw [List.length_map]; omega)
  injection hv3 with hv3 _ _
  subst hv3
  obtain ⟨b3, o3, x3, h7, h8, h9⟩ := Rw.at_ (show Rw 1 tbv u (some ⟨g3, 0, none⟩) (E.map (·.ok)) from Ow.rw_ (fun _ => rfl) h.r3.o) k (by rw [List.length_map]; exact hk)
  injection h7 with h7
  injection h7 with h7 h7o
  subst h7; subst h7o
  rw [List.getElem?_map, he] at h2 h5 h8
  injection h2 with h2
  injection h5 with h5
  injection h8 with h8
  subst h2; subst h5; subst h8
  obtain ⟨_, _, cs3, hcs3⟩ := Ow.block h.r3.o E.length g3 rfl
  refine ⟨e, b1, o1, b2, o2, g3, he, h1, h4, rfl, ⟨cs3, hcs3⟩, fun w hb => ⟨?_, h6 w hb 0 (by omega), h6 w hb 1 (by omega), h6 w hb 2 (by omega), h6 w hb 3 (by omega), ?_⟩⟩
  · have := h3 w hb 0 (by omega); simpa using this
  · have := h9 w hb 0 (by omega); simpa using this
/-- One is no good any more. -/
theorem So5.off {k : Nat} {e : On5} {g c : Nat} (h : So5 W u H tb key se E A1 c1 A2 c2 (some ⟨g, 0, none⟩) c) (he : E[k]? = some e) :
    So5 W (u.setCell ⟨g, k, none⟩ (.bool false)) H tb key se (E.set k ⟨e.tx, e.p, false⟩) A1 c1 A2 c2 (some ⟨g, 0, none⟩) c ∧ Tu 4 W H u (u.setCell ⟨g, k, none⟩ (.bool false)) := by
  obtain ⟨hk, hke⟩ := List.getElem?_eq_some_iff.1 he
  have e1 : E = E.take k ++ e :: E.drop (k + 1) := by rw [← hke, ← List.drop_eq_getElem_cons hk, List.take_append_drop]
  have e2 : E.set k ⟨e.tx, e.p, false⟩ = E.take k ++ ⟨e.tx, e.p, false⟩ :: E.drop (k + 1) := by
    rw [List.set_eq_take_append_cons_drop, if_pos hk]
  have hlen : (E.map (·.ok)).length = E.length := List.length_map ..
  obtain ⟨h4, _, cs0, hb0⟩ := Ow.block h.r3.o E.length g rfl
  have hgH := h.r3.n g (by rfl)
  have ht : Tu 4 W H u (u.setCell ⟨g, k, none⟩ (.bool false)) := ⟨[g], (Ke.refl [g] u).set (p := ⟨g, k, none⟩) (List.mem_singleton.2 rfl) _, fun y hy => by
    rw [List.mem_singleton.1 hy]
    exact ⟨hgH, h4, cs0, hb0⟩⟩
  have m1 : (E.set k ⟨e.tx, e.p, false⟩).map (·.tx) = E.map (·.tx) := by
    conv => rhs; rw [e1]
    rw [e2, List.map_append, List.map_append]; rfl
  have m2 : (E.set k ⟨e.tx, e.p, false⟩).map (·.p) = E.map (·.p) := by
    conv => rhs; rw [e1]
    rw [e2, List.map_append, List.map_append]; rfl
  have ho := h.r3.o
  rw [e1, List.map_append, List.map_cons] at ho
  have hu := Ow.upd (k := 1) (f := tbv) (fun _ => rfl) ho false 0 (by omega) (.bool false) rfl
  rw [List.length_map, List.length_take, Nat.min_eq_left (by omega), Nat.mul_one, Nat.add_zero] at hu
  refine ⟨⟨by rw [m1]; exact ht.lr h.r1 (by decide), by rw [m2]; exact ht.lr h.r2 (by decide), ⟨?_, fun g2 hg2 => ?_⟩⟩, ht⟩
  · rw [e2, List.map_append, List.map_cons]
    exact hu
  · simp [Value.ownBlock] at hg2
    rw [← hg2]
    exact hgH
end
end Go.Proofs.YtinbegnojfpeiaaDoor
