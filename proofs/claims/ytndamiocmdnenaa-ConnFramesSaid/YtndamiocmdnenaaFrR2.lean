/- The document's own Cut: its contract. -/
import Derived.Test.YtndamiocmdnenaaFrR1
import Derived.Test.YtndamiocmdnenaaHere
import Derived.Maps.AppendAt
namespace Go.Proofs.Ytndamiocmdnenaa
set_option linter.unusedVariables false
set_option maxRecDepth 100000
set_option linter.unusedSimpArgs false
open Go.RowKit

/-- append of one slice, just laid into a row of its own. -/
theorem wp_appl1 {ops : Array Oper} {rest : List Oper} {o : Oper} {a : Act} {Q : Exit → Act → World → Prop} {w : World} (hgd : o.guard = none) (s x : Operand)
    (ho : o.op = .call { callee := .builtin .append, args := #[s, x], argTypes := #[45, 45] }) (B E : Nat) (hE : E ≤ B) (L : List (List UInt8)) (A : Option Addr) (n c : Nat) (hs : a.eval s = .slice A n c) (hn : L.length = n) (hown : OL w B E A c L)
    (l : List UInt8) (A' : Option Addr) (m c' : Nat) (hx : a.eval x = .slice (some ⟨w.heap.size, 0, none⟩) 1 1) (hl : l.length = m) (hel : El w E A' c' l)
    (hlen : L.length + 1 ≤ 1099511627776) (hbase : B ≤ w.heap.size)
    (h : ∀ A2 c2 w', OL w' B E A2 c2 (L ++ [l]) → (w.alloc (.cells #[.slice A' m c'] 28)).grownBy w' (Value.slice A n c).ownBlock → Below B w w' → wpList Try.prog ops Q rest (a.put o.dst (.slice A2 (L.length + 1) c2)) w') : wpList Try.prog ops Q (o :: rest) a (w.alloc (.cells #[.slice A' m c'] 28)) := by
  have hb := (Below.refl w.heap.size w).alloc (Nat.le_refl _) (.cells #[.slice A' m c'] 28)
  refine wp_appl hgd s x ho B E hE L A n c hs hn (hown.below hb) [l] [.slice A' m c'] ⟨w.heap.size, 0, none⟩ 1 1 hx rfl (Els.one (hel.below hb) hl) (cell_one_new _ _ _) (by simpa using hlen) (by rw [World.size_alloc]; omega) ?_
  intro A2 c2 w' k1 k2 k3
  have := h A2 c2 w' k1 k2 ((hb.mono hbase).trans k3)
  have e : (L ++ [l]).length = L.length + 1 := by simp
  rw [e]
  exact this

theorem cut_go (l r : List UInt8) (pre : List (List UInt8)) (k : Nat) (hr : r = l.drop k) (h1 : cutF l = pre ++ cutF r) (h2 : doneF l = k + doneF r) (h3 : restF l = restF r) (h : lenF r ≠ 0) :
    cutF l = (pre ++ [partF r]) ++ cutF (l.drop (k + lenF r)) ∧ doneF l = (k + lenF r) + doneF (l.drop (k + lenF r)) ∧ restF l = restF (l.drop (k + lenF r)) := by
  have e : l.drop (k + lenF r) = r.drop (lenF r) := by rw [hr, List.drop_drop]
  obtain ⟨d1, d2⟩ := done_cons r h
  rw [e]
  refine ⟨?_, by omega, h3.trans d2⟩
  rw [h1, cut_cons r h, List.append_assoc]; rfl
theorem cut_end (l r : List UInt8) (pre : List (List UInt8)) (k : Nat) (h1 : cutF l = pre ++ cutF r) (h2 : doneF l = k + doneF r) (h3 : restF l = restF r) (h : lenF r = 0) : cutF l = pre ∧ doneF l = k ∧ restF l = r := by
  obtain ⟨d1, d2⟩ := done_nil r h
  rw [cut_nil r h, List.append_nil] at h1
  exact ⟨h1, by omega, h3.trans d2⟩

set_option maxRecDepth 100000 in
set_option maxHeartbeats 4000000 in
theorem rcut_ok (A : Option Addr) (n c : Nat) (l : List UInt8) (w : World) (hl : l.length = n) (hc : n ≤ c) (hmax : c ≤ 9223372036854775807) (hn : n ≤ 549755813888) (hR : Rb w w.heap.size A l) :
    Calls Try.prog 30 #[.slice A n c] w fun e w' => ∃ A2 c2, e = .returned (.tuple #[.slice A2 (cutF l).length c2, .int .i64 (doneF l : Nat), .int .i64 (errF (restF l) : Nat)]) ∧ OL w' w.heap.size 0 A2 c2 (cutF l) ∧ Below w.heap.size w w' := by
  have HL := Lib.hid hl
  have HR := Lib.hid hR
  obtain ⟨C, hC⟩ : ∃ C, cutF l = C := ⟨_, rfl⟩
  obtain ⟨D, hD⟩ : ∃ D, doneF l = D := ⟨_, rfl⟩
  obtain ⟨E, hE⟩ : ∃ E, errF (restF l) = E := ⟨_, rfl⟩
  rw [hC, hD, hE]
  have HX := Lib.hid (And.intro hC (And.intro hD hE))
  clear hl hR hC hD hE
  go_enter Try.func30, Try.ntmps30
  go_wp2_with fail
  go_loopw [5, 6] (fun v5 v6 wr => ∃ (pre : List (List UInt8)) (A2 : Option Addr) (c2 k m : Nat), v5 = .slice A2 m c2 ∧ v6 = .int .i64 (k : Int) ∧ k ≤ n ∧ m ≤ k ∧ Hid (pre.length = m) ∧ Hid (cutF l = pre ++ cutF (l.drop k) ∧ doneF l = k + doneF (l.drop k) ∧ restF l = restF (l.drop k)) ∧ Hid (OL wr w.heap.size 0 A2 c2 pre) ∧ Hid (Below w.heap.size w wr)) (fun _ v6 _ => n - (intOf v6).toNat)
  case atStart => exact ⟨[], none, 0, 0, 0, rfl, rfl, by omega, by omega, Lib.hid rfl, Lib.hid ⟨rfl, by rw [Nat.zero_add]; rfl, rfl⟩, Lib.hid (OL.nil _ _ _), Lib.hid (Below.refl _ _)⟩
  case round =>
    obtain ⟨pre, A2, c2, k, m, rfl, rfl, hk, hm, HM, HC, HO, HB⟩ := hrel
    obtain ⟨r, hr⟩ : ∃ r, r = l.drop k := ⟨_, rfl⟩
    have hrl : r.length = n - k := by rw [hr, List.length_drop, HL.out]
    have hrb : Rb wr wr.heap.size (tailA A c k) r := by
      rw [hr]
      exact ((HR.out.below HB.out (Nat.le_refl _)).more HB.out.size).tail k (by rw [HL.out]; exact hc)
    have HF := Lib.hid (fun c' (h1 : n - k ≤ c') (h2 : c' ≤ 9223372036854775807) => rfirst_ok (tailA A c k) (n - k) c' r wr hrl h1 h2 hrb)
    have HSL := Lib.hid (fun u => slice_fr A n c k hk hc u)
    have HCC := HC.out
    rw [← hr] at HCC
    have hle := len_le r
    by_cases h0 : lenF r = 0
    · obtain ⟨d1, d2, d3⟩ := cut_end l r pre k HCC.1 HCC.2.1 HCC.2.2 h0
      rw [h0, part_nil r h0] at HF
      have HFIN := Lib.hid (show C = pre ∧ D = k ∧ E = errF r from by
        obtain ⟨x1, x2, x3⟩ := HX.out
        rw [d3] at x3
        exact ⟨x1.symm.trans d1, x2.symm.trans d2, x3.symm⟩)
      cases hb : begB r with
      | false =>
        rw [err_bad r hb] at HF HFIN
        clear HCC hrb hr hrl d1 d2 d3 h0 hb hle
        go_wp2_with ((with_reducible refine wpList_here ?_); refine wpList_from rfl 28 (.tmp 11) (.tmp 12) rfl _ _ _ rfl rfl (HSL.out _) ?_)
        refine (HF.out _ (by omega) (by omega)).mono ?_
        rintro e w2 ⟨A5, c5, rfl, ho, hnn, hb2⟩
        have HB2 := Lib.hid hb2
        clear ho hnn hb2
        go_wp2_with fail
        go_ret3
        obtain ⟨y1, y2, y3⟩ := HFIN.out
        rw [y1, y2, y3]
        exact ⟨A2, c2, by rw [HM.out]; rfl, HO.out.below HB2.out, HB.out.trans (HB2.out.mono HB.out.size)⟩
      | true =>
        rw [err_ok r hb] at HF HFIN
        clear HCC hrb hr hrl d1 d2 d3 h0 hb hle
        go_wp2_with ((with_reducible refine wpList_here ?_); refine wpList_from rfl 28 (.tmp 11) (.tmp 12) rfl _ _ _ rfl rfl (HSL.out _) ?_)
        refine (HF.out _ (by omega) (by omega)).mono ?_
        rintro e w2 ⟨A5, c5, rfl, ho, hnn, hb2⟩
        have HB2 := Lib.hid hb2
        clear ho hnn hb2
        go_wp2_with fail
        go_ret3
        obtain ⟨y1, y2, y3⟩ := HFIN.out
        rw [y1, y2, y3]
        exact ⟨A2, c2, by rw [HM.out]; rfl, HO.out.below HB2.out, HB.out.trans (HB2.out.mono HB.out.size)⟩
    · have h3 := len_ge r h0
      have HGO := Lib.hid (cut_go l r pre k hr HCC.1 HCC.2.1 HCC.2.2 h0)
      rw [err_ok r (len_beg r h0)] at HF
      obtain ⟨q, hq⟩ : ∃ q, q = lenF r := ⟨_, rfl⟩
      rw [← hq] at HF HGO hle h3 h0
      obtain ⟨x, hx⟩ : ∃ x, x = partF r := ⟨_, rfl⟩
      rw [← hx] at HF HGO
      have eq0 : ((q : Int) == 0) = false := by rw [beq_eq_false_iff_ne]; omega
      clear HCC hrb hr h0 hq hx
      go_wp2_with ((with_reducible refine wpList_here ?_); refine wpList_from rfl 28 (.tmp 11) (.tmp 12) rfl _ _ _ rfl rfl (HSL.out _) ?_)
      refine (HF.out _ (by omega) (by omega)).mono ?_
      rintro e w2 ⟨A5, c5, rfl, ho, hnn, hb2⟩
      have HB2 := Lib.hid hb2
      have HE2 := Lib.hid (show El w2 0 A5 c5 x from ho.el hnn)
      clear ho hnn hb2
      go_wp2_with (at_builtin; refine wp_appl1 rfl (.tmp 27) (.tmp 29) rfl w.heap.size 0 (Nat.zero_le _) pre _ _ _ rfl HM.out (HO.out.below HB2.out) x A5 _ c5 rfl rfl HE2.out (by have := HM.out; omega) (Nat.le_trans HB.out.size HB2.out.size) ?_; intro A6 c6 w6 ho6 hg6 hb6)
      go_roundw
      case rel =>
        exact ⟨pre ++ [x], A6, c6, k + q, m + 1, by rw [HM.out], by go_num, by omega, by omega, Lib.hid (by simp [HM.out]), HGO, Lib.hid ho6, Lib.hid ((HB.out.trans (HB2.out.mono HB.out.size)).trans hb6)⟩
      case measure => simp [intOf]; omega
end Go.Proofs.Ytndamiocmdnenaa
