/- The document's own table of pairs: Part: its contract. (Begun in round 15, in a seat of the document's own table alone.) -/
import Derived.Test.YtinjldjpncijjaaPrR
import Derived.Test.YtinjldjpncijjaaRowsAtM
import Derived.BigRegion
import Derived.Deep.RegionLaw
import Derived.Deep.Cut
namespace Go.Proofs.Ytinjldjpncijjaa
set_option linter.unusedVariables false
set_option maxRecDepth 100000
set_option linter.unusedSimpArgs false
open Go.RowKit

section
variable {W u u' : World} {H H' : List Nat} {rb : Nat} {t t' : Tp}
theorem pr_far {w : World} {g g' : Nat} {e e' : TypeId} {cs cs' : Array Value} (h : Bk w g e cs) (h' : Bk w g' e' cs') (hn : e ≠ e') : g ≠ g' := by
  intro x
  subst x
  have hh : w.heap[g]? = some (.cells cs e (0, 0)) := h
  have hh' : w.heap[g]? = some (.cells cs' e' (0, 0)) := h'
  rw [hh] at hh'
  injection hh' with hh'
  injection hh' with _ hh'
  exact hn hh'
theorem Ow.farR {β : Type} {e e' : TypeId} {k : Nat} {f : β → Array Value} {w : World} {B : Nat} {A : Option Addr} {c : Nat} {l : List β} (h : Ow e k f w B A c l) {g : Nat} {cs : Array Value} (hb : Bk w g e' cs) (hn : e ≠ e') (i : Nat) (v : Value) : Ow e k f (w.setCell ⟨g, i, none⟩ v) B A c l := by
  refine ⟨h.1, ?_⟩
  rcases h.2 with h0 | ⟨g2, cap, cur, hv, hg, hh, r⟩
  · exact .inl h0
  · exact .inr ⟨g2, cap, cur, hv, hg, (show Bk w g2 _ _ from hh).far (show g2 ≠ g from pr_far hh hb hn) _, r⟩
theorem Ow.low {β : Type} {e : TypeId} {k : Nat} {f : β → Array Value} {w : World} {B B' : Nat} {A : Option Addr} {c : Nat} {l : List β} (h : Ow e k f w B A c l) (hB : B' ≤ B) : Ow e k f w B' A c l := by
  refine ⟨h.1, ?_⟩
  rcases h.2 with h0 | ⟨g, cap, cur, hv, hg, r⟩
  · exact .inl h0
  · exact .inr ⟨g, cap, cur, hv, Nat.le_trans hB hg, r⟩
/-- The table's row is a new one. -/
theorem pr_set (h : Dr W u H rb t) {w : World} {l : List Pp} {n2 c9 : Nat} {A9 : Option Addr} (hb : Below u.heap.size u w) (hl : l.length = n2) (ho : Ow 43 2 ppc w u.heap.size A9 c9 l) :
    ∃ H', Dr W (w.setCell ⟨rb, 0, none⟩ (.slice A9 n2 c9)) H' rb ⟨l, t.ev⟩ ∧ Sp u (w.setCell ⟨rb, 0, none⟩ (.slice A9 n2 c9)) H H' := by
  obtain ⟨A, c, E, d, h1, h2, h3, h4, h5⟩ := (h.on hb).ex
  have hWs := h.l.size
  have hs : Sp u (w.setCell ⟨rb, 0, none⟩ (.slice A9 n2 c9)) H (H ++ ((Value.slice A9 n2 c9).ownBlock).toList) := by
    refine ⟨((Ke.of hb).nil).set (p := ⟨rb, 0, none⟩) h.rb _, fun y hy => ?_⟩
    rcases List.mem_append.1 hy with e | e
    · exact .inl e
    · have hy2 : (Value.slice A9 n2 c9).ownBlock = some y := by simpa using e
      exact .inr (Ow.block ho n2 y hy2).1
  have hsz : w.heap.size ≤ (w.setCell ⟨rb, 0, none⟩ (.slice A9 n2 c9)).heap.size := by simp [World.setCell]
  refine ⟨H ++ ((Value.slice A9 n2 c9).ownBlock).toList, ⟨⟨A9, c9, E, d, ?_, (ho.farR h1 (by decide) 0 _).low hWs, h3.farR h1 (by decide) 0 _, fun g hg => ?_, fun g hg => List.mem_append_left _ (h5 g hg)⟩, List.mem_append_left _ h.rb, h.l.trans (hs.k.below h.l.size h.lo), fun y hy => ?_, fun y hy => ?_⟩, hs⟩
  · rw [hl]; exact h1.set 0 _
  · rw [hl] at hg
    rw [hg]; simp
  · rcases hs.g y hy with e | e
    · exact h.lo y e
    · exact Nat.le_trans hWs e
  · rcases List.mem_append.1 hy with e | e
    · exact Nat.lt_of_lt_of_le (h.hi y e) hs.k.size
    · have hy2 : (Value.slice A9 n2 c9).ownBlock = some y := by simpa using e
      exact Nat.lt_of_lt_of_le (Ow.block ho n2 y hy2).2.1 hsz
theorem part_take {l : List Pp} {i : Nat} {x : Pp} (h : l[i]? = some x) (id : Int) : partL (l.take (i + 1)) id = partL (l.take i) id ++ (if x.has id = true then [] else [x]) := by
  unfold partL
  rw [List.take_add_one, h, List.filter_append]
  congr 1
  cases hx : x.has id <;> simp [hx]
set_option maxRecDepth 100000 in
set_option maxHeartbeats 4000000 in
theorem pr_part (h : Dr W u H rb t) (hf : t.l.length ≤ 1000000) (id : Int) (x0 : Int) (b0 : Bool) (t2 : Tp) (hR : partP t id = ((x0, b0), t2)) :
    Calls Try.prog 13 #[.pointer (some ⟨rb, 0, none⟩), .int .i64 id] u fun e u' => ∃ H', e = .returned (.tuple #[.int .i64 x0, .bool b0]) ∧ Dr W u' H' rb t2 ∧ Sp u u' H H' := by
  obtain ⟨A, c, E, d, h1, h2, _⟩ := h.ex
  obtain ⟨n, hn⟩ : ∃ n, t.l.length = n := ⟨_, rfl⟩
  have HR := Lib.hid (Ow.rw_ (f := ppc) (k := 2) (fun _ => rfl) h2)
  have HN := Lib.hid hn
  have HD := Lib.hid h
  have ho : othP t.l id = (x0, b0) := congrArg Prod.fst hR
  have ht2 : (⟨partL t.l id, t.ev⟩ : Tp) = t2 := congrArg Prod.snd hR
  have HO := Lib.hid (pr_other h hf id x0 b0 ho)
  have HT := Lib.hid ht2
  rw [hn] at h1 hf
  have HBK := Lib.hid (show ∀ w, Below u.heap.size u w → Bk w rb 40 #[.slice A n c, .slice E t.ev.length d] from fun w hb => h1.below hb h1.lt)
  clear h h1 h2 hn hR ho ht2
  go_enter Try.func13, Try.ntmps13
  go_upto_region 2 with (go_at_call 17; (with_reducible refine HO.out.mono ?_); rintro e u2 ⟨rfl, hu⟩; rw [hu]; clear hu)
  go_wp2
  go_loopw [8, 9] (fun v8 v9 wr => ∃ (i m : Nat) (A2 : Option Addr) (c2 : Nat), i ≤ n ∧ v8 = .slice A2 m c2 ∧ v9 = .int .i64 (i : Int) ∧ Hid (Ow 43 2 ppc wr u.heap.size A2 c2 (partL (t.l.take i) id)) ∧ Hid ((partL (t.l.take i) id).length = m ∧ m ≤ i) ∧ Hid (Below u.heap.size u wr)) (fun v8 v9 _ => n - (intOf v9).toNat)
  case atStart => exact ⟨0, 0, none, 0, by omega, rfl, rfl, Lib.hid (Ow.nil _ _), Lib.hid ⟨rfl, Nat.le_refl _⟩, Lib.hid (Below.refl _ _)⟩
  case round =>
    obtain ⟨i, m, A2, c2, hi, rfl, rfl, HW, HM, HB⟩ := hrel
    have c0 : wr.cell? ⟨rb, 0, none⟩ = some (.slice A n c) := (HBK.out wr HB.out).cell 0
    by_cases hi1 : i < n
    · have hi2 : (i : Int) < (n : Int) := by omega
      obtain ⟨b, o, x, rfl, hx, hc⟩ := rowPP HR.out i (by rw [HN.out]; exact hi1)
      obtain ⟨k0, k1⟩ := hc wr HB.out
      have HTK := Lib.hid (part_take hx id)
      have HX := Lib.hid hx
      obtain ⟨xv, xc⟩ := x
      dsimp only at k0 k1
      obtain ⟨q, hq⟩ : ∃ q, (xv == id) = q := ⟨_, rfl⟩
      obtain ⟨r, hr⟩ : ∃ r, (xc == id) = r := ⟨_, rfl⟩
      have hq2 : (xv != id) = !q := by rw [bne, hq]
      have hr2 : (xc != id) = !r := by rw [bne, hr]
      have HQ := Lib.hid (show Pp.has ⟨xv, xc⟩ id = (q || r) by unfold Pp.has; rw [hq, hr])
      clear hc hx
      cases q with
      | true =>
        simp only [Bool.not_true] at hq2
        have HT2 := Lib.hid (show partL (t.l.take (i + 1)) id = partL (t.l.take i) id by rw [HTK.out, if_pos (by rw [HQ.out]; rfl), List.append_nil])
        go_wp2
        go_roundw
        case rel => exact ⟨i + 1, m, A2, c2, by omega, rfl, by go_num, Lib.hid (by rw [HT2.out]; exact HW.out), Lib.hid (by rw [HT2.out]; exact ⟨HM.out.1, by have := HM.out.2; omega⟩), HB⟩
        case measure => simp [intOf] <;> omega
      | false =>
        simp only [Bool.not_false] at hq2
        cases r with
        | true =>
          simp only [Bool.not_true] at hr2
          have HT2 := Lib.hid (show partL (t.l.take (i + 1)) id = partL (t.l.take i) id by rw [HTK.out, if_pos (by rw [HQ.out]; rfl), List.append_nil])
          go_wp2
          go_roundw
          case rel => exact ⟨i + 1, m, A2, c2, by omega, rfl, by go_num, Lib.hid (by rw [HT2.out]; exact HW.out), Lib.hid (by rw [HT2.out]; exact ⟨HM.out.1, by have := HM.out.2; omega⟩), HB⟩
          case measure => simp [intOf] <;> omega
        | false =>
          simp only [Bool.not_false] at hr2
          have HT2 := Lib.hid (show partL (t.l.take (i + 1)) id = partL (t.l.take i) id ++ [⟨xv, xc⟩] by rw [HTK.out, if_neg (by rw [HQ.out]; simp)])
          have HOA := Lib.hid (HW.out.on ((Below.refl wr.heap.size wr).alloc (Nat.le_refl _) (.cells #[.int .i64 xv, .int .i64 xc] 43)))
          have HRX := Lib.hid (Rw.bk (f := ppc) (k := 2) (x := (⟨xv, xc⟩ : Pp)) (Bk.new wr 43 #[.int .i64 xv, .int .i64 xc]))
          have HSA := Lib.hid (show u.heap.size ≤ (wr.alloc (.cells #[.int .i64 xv, .int .i64 xc] 43)).heap.size by have := HB.out.size; rw [World.size_alloc]; omega)
          have hmm : m ≤ 1000000 := by have := HM.out.2; omega
          go_wp2_with (at_builtin; refine wp_rows_at roPP rfl (.tmp 47) (.tmp 55) rfl m rfl HM.out.1 HOA.out ⟨xv, xc⟩ wr.heap.size 1 rfl HRX.out (by omega) HSA.out (m + 1) rfl ?_; intro g9 c9 w9 ho hg hb hat; have HY := Lib.hid (And.intro ho (HB.out.trans (((Below.refl wr.heap.size wr).alloc (Nat.le_refl _) _ |>.mono HB.out.size).trans hb))); clear ho hg hb hat)
          go_roundw
          case rel => exact ⟨i + 1, m + 1, some ⟨g9, 0, none⟩, c9, by omega, rfl, by go_num, Lib.hid (by rw [HT2.out]; exact HY.out.1), Lib.hid (by rw [HT2.out, List.length_append, HM.out.1]; exact ⟨rfl, by have := HM.out.2; omega⟩), Lib.hid HY.out.2⟩
          case measure => simp [intOf] <;> omega
    · have hi2 : ¬ (i : Int) < (n : Int) := by omega
      have f0 := (HBK.out wr HB.out).frozen 0
      have HAL := Lib.hid (show t.l.take i = t.l from List.take_of_length_le (by rw [HN.out]; omega))
      go_wp2
      go_ret2
      have ho := HW.out
      have hm := HM.out.1
      rw [HAL.out] at ho hm
      obtain ⟨H', z1, z2⟩ := pr_set HD.out HB.out hm ho
      rw [HT.out] at z1
      first
        | exact ⟨H', rfl, z1, z2⟩
        | exact ⟨rfl, H', z1, z2⟩
end
end Go.Proofs.Ytinjldjpncijjaa
