/- spend, Void, Many, New: their contracts. -/
import Derived.Test.YtinbegnojfpeiaaDoorTk3
namespace Go.Proofs.YtinbegnojfpeiaaDoor
set_option linter.unusedVariables false
set_option maxRecDepth 100000
set_option linter.unusedSimpArgs false
open Go.RowKit

section
variable {W u u' : World} {H H' : List Nat} {B tb : Nat} {key : ByteArray} {se : Int} {l l' : List Tq} {A : Option Addr} {c kb kc : Nat} {b b' : Bt}
/-- Its row turned in place. -/
theorem Tm.spent {u2 : World} {g m c9 : Nat} (h : Tm u H B tb key se l (some ⟨g, 0, none⟩) c kb kc) (k : Ke [g] u u2) (ho : Ow 59 5 tqc u2 B (some ⟨g, 0, none⟩) c l') (hsub : ∀ x ∈ l', x ∈ l) (hm : l'.length = m) :
    Tm (u2.setCell ⟨tb, 2, none⟩ (.slice (some ⟨g, 0, none⟩) m c)) H B tb key se l' (some ⟨g, 0, none⟩) c kb kc ∧ Ke H u (u2.setCell ⟨tb, 2, none⟩ (.slice (some ⟨g, 0, none⟩) m c)) := by
  have hg : g ∈ H := h.own g rfl
  obtain ⟨_, _, cs, hc⟩ := Ow.block h.ow l.length g rfl
  have n1 : tb ≠ g := bk_dist h.blk hc (by decide)
  have k2 : Ke [g, tb] u (u2.setCell ⟨tb, 2, none⟩ (.slice (some ⟨g, 0, none⟩) m c)) := (k.more (fun x hx => by rw [List.mem_singleton.1 hx]; exact List.mem_cons_self ..)).set (p := ⟨tb, 2, none⟩) (by simp) _
  have hk : Ke H u (u2.setCell ⟨tb, 2, none⟩ (.slice (some ⟨g, 0, none⟩) m c)) := k2.more (fun x hx => by
    simp only [List.mem_cons, List.not_mem_nil, or_false] at hx
    rcases hx with rfl | rfl
    · exact hg
    · exact h.tb)
  have hne : ∀ {y : Nat} {s : ByteArray}, Tb u y s → y ∉ [g, tb] := fun hy => by
    have h1 := hy.ne hc (by decide)
    have h2 := hy.ne h.blk (by decide)
    simp [h1, h2]
  refine ⟨⟨?_, Ow.apart ho (p := ⟨tb, 2, none⟩) (fun e => n1 e.symm) _, fun y hy => h.own y hy, fun x hx => ?_, h.ky.ke k2 (hne h.ky), h.kh, h.k1, h.k2, h.tb⟩, hk⟩
  · rw [hm]
    exact (h.blk.ke k (by simpa using n1)).set 2 _
  · have hx1 := h.tx x (hsub x hx)
    exact ⟨hx1.1.ke k2 (hne hx1.1), hx1.2⟩
theorem Tz.made {u2 : World} (h : Tz W u H tb key b) {l2 : List Tq} {A2 : Option Addr} {c2 kb2 kc2 : Nat} (hm : Tm u2 H W.heap.size tb key b'.se l2 A2 c2 kb2 kc2) (hl : l2.map Tq.k = b'.l) (k : Ke H u u2) : Tz W u2 H tb key b' :=
  ⟨⟨l2, A2, c2, kb2, kc2, hm, hl⟩, h.l.trans (k.below h.l.size h.lo), h.lo, fun y hy => Nat.lt_of_lt_of_le (h.hi y hy) k.size⟩
set_option maxRecDepth 100000 in
set_option maxHeartbeats 2000000 in
theorem spend_ok (h : Tz W u H tb key b) (i : Nat) (hi : i < b.l.length) (hf : b.l.length ≤ 64) :
    Calls Tryd.prog 23 #[.pointer (some ⟨tb, 0, none⟩), .int .i64 (i : Int)] u fun e u' => e = .returned (.tuple #[]) ∧ Tz W u' H tb key ⟨b.se, b.l.take i ++ b.l.drop (i + 1)⟩ ∧ Sp u u' H H := by
  obtain ⟨l, A, c, kb, kc, hm, hl⟩ := h.ex
  have hn : l.length = b.l.length := by rw [← hl, List.length_map]
  obtain ⟨n, hn2⟩ : ∃ n, b.l.length = n := ⟨_, rfl⟩
  rw [hn2] at hn hi hf
  obtain ⟨g, cap, hv, _, _⟩ := World.ownsRow.form hm.ow (by omega)
  injection hv with h1 _ h3
  subst h1; subst h3
  have HM := Lib.hid hm
  have HZ := Lib.hid h
  have HL := Lib.hid hl
  have HN := Lib.hid hn
  have hblk := hm.blk
  rw [hn] at hblk
  have c2 : u.cell? ⟨tb, 2, none⟩ = some (.slice (some ⟨g, 0, none⟩) n c) := hblk.cell 2
  have HD := Lib.hid (del_ok u g n c i l hm.ow hn hf hi)
  obtain ⟨j, hj⟩ : ∃ j, i + 1 = j := ⟨_, rfl⟩
  have HJ := Lib.hid hj
  rw [hj] at HD
  have hw : IntKind.i64.wrap ((i : Int) + 1) = (j : Int) := (iwrap _ j (by omega) (by omega)).1
  have hbt : ∀ (u2 : World), Ke [g] u u2 → ∃ cs, Bk u2 tb 56 cs ∧ u2.cell? ⟨tb, 2, none⟩ = some (.slice (some ⟨g, 0, none⟩) n c) := fun u2 k => by
    obtain ⟨_, _, cs, hc⟩ := Ow.block hm.ow l.length g rfl
    have := hblk.ke k (by simpa using bk_dist hblk hc (by decide))
    exact ⟨_, this, this.cell 2⟩
  have HBT := Lib.hid hbt
  clear h hm hl hn hblk hbt hj
  go_enter Tryd.func23, Tryd.ntmps23
  go_wp2_with (go_at_call 35; (with_reducible refine HD.out.mono ?_); rintro e u2 ⟨rfl, h1, h2⟩; have HO := Lib.hid h1; have HK := Lib.hid h2; obtain ⟨cs2, hb2, c2b⟩ := HBT.out _ h2; have f2 := hb2.frozen 2; clear h1 h2 hb2)
  go_end0
  have hj := HJ.out
  subst hj
  obtain ⟨z1, z2⟩ := HM.out.spent (c9 := c) HK.out HO.out (fun x hx => by
    rcases List.mem_append.1 hx with hx | hx
    · exact List.mem_of_mem_take hx
    · exact List.mem_of_mem_drop hx) (m := n - 1) (by rw [List.length_append, List.length_take, List.length_drop, HN.out]; omega)
  exact ⟨rfl, HZ.out.made (b' := ⟨b.se, b.l.take i ++ b.l.drop (i + 1)⟩) z1 (by rw [List.map_append, List.map_take, List.map_drop, HL.out]) z2, Sp.of z2⟩
set_option maxRecDepth 100000 in
set_option maxHeartbeats 2000000 in
theorem void_ok (h : Tz W u H tb key b) (v : Int) (R : Bool × Bt) (hR : voiT b v = R) (hf : b.l.length ≤ 64) :
    Calls Tryd.prog 16 #[.pointer (some ⟨tb, 0, none⟩), .int .i64 v] u fun e u' => ∃ H', e = .returned (.bool R.1) ∧ Tz W u' H' tb key R.2 ∧ Sp u u' H H' := by
  obtain ⟨l, A, c, kb, kc, hm, hl⟩ := h.ex
  have hn : l.length ≤ 64 := by rw [← hl, List.length_map] at hf; exact hf
  have HO := Lib.hid (of_ok hm hn v)
  rw [hl] at HO
  have HZ := Lib.hid h
  have HR := Lib.hid hR
  have HF := Lib.hid hf
  rcases ix_cases (visT v) b.l with ⟨h0, h1⟩ | ⟨i, x, hx, h0, hv, h1⟩
  · rw [h1] at HO
    have HP := Lib.hid (show R = (false, b) from hR.symm.trans (voi_no (List.any_eq_false.2 fun y hy => by rw [h0 y hy]; simp)))
    clear h hm hl hn hR hf h0 h1
    go_enter Tryd.func16, Tryd.ntmps16
    go_wp2_with (go_at_call 25; (with_reducible refine HO.out.mono ?_); rintro e u2 ⟨rfl, hb⟩; have HB := Lib.hid hb; clear hb)
    go_ret
    rw [HP.out]
    exact ⟨H, rfl, HZ.out.on HB.out, (Ke.of HB.out).sp⟩
  · rw [h1] at HO
    have hi := (List.getElem?_eq_some_iff.1 hx).1
    obtain ⟨e1, _⟩ := erase_at hx h0 hv
    have HP := Lib.hid (show R = (true, ⟨b.se, b.l.take i ++ b.l.drop (i + 1)⟩) from by
      rw [← hR]
      unfold voiT
      rw [e1, show b.l.any (visT v) = true from List.any_eq_true.2 ⟨x, List.mem_of_getElem? hx, hv⟩])
    have HI := Lib.hid hi
    have h2 : ¬ (i : Int) < 0 := by omega
    clear h hm hl hn hR hf h0 h1 hx hv e1 hi
    go_enter Tryd.func16, Tryd.ntmps16
    go_wp2_with (first
      | (go_at_call 25; (with_reducible refine HO.out.mono ?_); rintro e u2 ⟨rfl, hb⟩; have HB := Lib.hid hb; clear hb)
      | (go_at_call 23; (with_reducible refine (spend_ok (HZ.out.on HB.out) i HI.out HF.out).mono ?_); rintro e u3 ⟨rfl, z1, z2⟩; have H3 := Lib.hid (And.intro z1 z2); clear z1 z2))
    go_ret
    rw [HP.out]
    exact ⟨H, rfl, H3.out.1, (Ke.of HB.out).sp.trans H3.out.2⟩
set_option maxRecDepth 100000 in
set_option maxHeartbeats 1000000 in
theorem many_ok (h : Tz W u H tb key b) (n : Nat) (hn : b.l.length = n) :
    Calls Tryd.prog 20 #[.pointer (some ⟨tb, 0, none⟩)] u fun e u' => e = .returned (.int .i64 (n : Int)) ∧ Below u.heap.size u u' := by
  obtain ⟨l, A, c, kb, kc, hm, hl⟩ := h.ex
  have hblk := hm.blk
  rw [show l.length = n by rw [← hn, ← hl, List.length_map]] at hblk
  have c2 : u.cell? ⟨tb, 2, none⟩ = some (.slice A n c) := hblk.cell 2
  clear h hm hl hblk
  go_enter Tryd.func20, Tryd.ntmps20
  go_wp2
  go_ret
  exact ⟨rfl, Below.refl _ _⟩
set_option maxRecDepth 100000 in
set_option maxHeartbeats 1000000 in
theorem tnew_ok (h : Below W.heap.size W u) (key : ByteArray) (hk : key.size ≤ 140737488355328) : Calls Tryd.prog 10 #[.string key] u fun e u' => ∃ H tb, e = .returned (.pointer (some ⟨tb, 0, none⟩)) ∧ Tz W u' H tb key ⟨0, []⟩ ∧ Below u.heap.size u u' ∧ ∀ y ∈ H, u.heap.size ≤ y := by
  obtain ⟨cap, ob, hcb, hcap1, hcap2, htb⟩ := conv_tb key hk u
  have HB := Lib.hid h
  have HT := Lib.hid (show Tb (u.alloc ob) u.heap.size key from htb)
  have HC := Lib.hid (And.intro hcap1 hcap2)
  clear h htb hcap1 hcap2
  go_enter Tryd.func10, Tryd.ntmps10
  go_wp2
  go_ret
  have hb0 : Below u.heap.size u (u.alloc ob) := (Below.refl u.heap.size u).alloc (Nat.le_refl _) _
  have hs0 : (u.alloc ob).heap.size = u.heap.size + 1 := World.size_alloc ..
  have hb1 : Below (u.alloc ob).heap.size (u.alloc ob) (((u.alloc ob).alloc (.cells #[.slice (some ⟨u.heap.size, 0, none⟩) key.size cap, .int .i64 0, .slice none 0 0] 56)).drew) := ((Below.refl _ _).alloc (Nat.le_refl _) _).drew
  have hbk := (Bk.new (u.alloc ob) 56 #[.slice (some ⟨u.heap.size, 0, none⟩) key.size cap, .int .i64 0, .slice none 0 0]).drew
  have hB := hb0.trans (hb1.mono hb0.size)
  have hWs := HB.out.size
  refine ⟨[u.heap.size, (u.alloc ob).heap.size], (u.alloc ob).heap.size, by rw [hs0]; rfl, ⟨⟨[], none, 0, u.heap.size, cap, ⟨hbk, Ow.nil _ _, fun g hg => (by cases hg), fun x hx => (by cases hx), HT.out.on hb1, by simp, HC.out.1, HC.out.2, by simp⟩, rfl⟩, HB.out.trans (hB.mono hWs), fun y hy => ?_, fun y hy => ?_⟩, hB, fun y hy => ?_⟩
  · simp only [List.mem_cons, List.not_mem_nil, or_false] at hy
    rcases hy with rfl | rfl
    · exact hWs
    · omega
  · have := hbk.lt
    simp only [List.mem_cons, List.not_mem_nil, or_false] at hy
    rcases hy with rfl | rfl
    · omega
    · exact this
  · simp only [List.mem_cons, List.not_mem_nil, or_false] at hy
    rcases hy with rfl | rfl <;> omega
end
end Go.Proofs.YtinbegnojfpeiaaDoor
