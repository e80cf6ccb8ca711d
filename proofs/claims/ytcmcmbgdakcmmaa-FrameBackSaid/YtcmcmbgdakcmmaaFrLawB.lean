/- The walk of FrameBack. -/
import Derived.Test.YtcmcmbgdakcmmaaFrHead
import Derived.Test.YtcmcmbgdakcmmaaFrLib2
import Derived.Test.YtcmcmbgdakcmmaaFrGreat
import Derived.Test.YtcmcmbgdakcmmaaFrR3
import Derived.Test.YtcmcmbgdakcmmaaHere
import Derived.Deep.Cut
namespace Go.Proofs.Ytcmcmbgdakcmmaa
set_option linter.unusedVariables false
set_option linter.unusedSimpArgs false
open Go.RowKit

theorem join_le (L : List (List UInt8)) (h : ∀ x ∈ L, fineB x = true) : (joinF L).length ≤ 202 * L.length := by
  rw [← sum_join L h]
  exact sum_le L (fun x hx => ((fine_iff x).1 (h x hx)).2)
/-- Two rows of different types that the call owns lie apart. -/
theorem rows_apart {w : World} {B B' : Nat} {e e' : TypeId} {v v' : Value} {n n' : Nat} {xs xs' : List Value} (h : w.ownsRow B e 1 v n xs) (h' : w.ownsRow B' e' 1 v' n' xs') (he : e ≠ e') : v.ownBlock = none ∨ v.ownBlock ≠ v'.ownBlock := by
  rcases h.2 with ⟨rfl, _⟩ | ⟨g, cap, cur, rfl, _, hg, _⟩
  · exact .inl rfl
  · right
    rcases h'.2 with ⟨rfl, _⟩ | ⟨g', cap', cur', rfl, _, hg', _⟩
    · intro h; cases h
    · intro h
      have e1 : g = g' := by simpa [Value.ownBlock] using h
      subst e1
      rw [hg] at hg'
      injection hg' with hg'
      injection hg' with _ h2
      exact he h2
/-- The call owns a row of slices of bytes that came in. -/
def OA (W w : World) (B : Nat) (A : Option Addr) (n c : Nat) (M : List (List UInt8)) : Prop := ∃ vs, w.ownsRow B 22 1 (.slice A n c) n vs ∧ Els W W.heap.size vs M
theorem OA.ol {W w : World} {B : Nat} {A : Option Addr} {n c : Nat} {M : List (List UInt8)} (h : OA W w B A n c M) (hn : M.length = n) (hb : Below W.heap.size W w) : OL w B W.heap.size A c M := by
  obtain ⟨vs, h1, h2⟩ := h
  subst hn
  exact ⟨vs, h1, h2.map (fun _ _ _ he => he.below hb)⟩
theorem OA.below {W w w' : World} {B : Nat} {A : Option Addr} {n c : Nat} {M : List (List UInt8)} (h : OA W w B A n c M) (hb : Below w.heap.size w w') : OA W w' B A n c M := by
  obtain ⟨vs, h1, h2⟩ := h
  refine ⟨vs, ⟨h1.1, ?_⟩, h2⟩
  rcases h1.2 with hn | ⟨g, cap, cur, hv, hg, hh, r⟩
  · exact .inl hn
  · exact .inr ⟨g, cap, cur, hv, hg, (hb.block g (lt_of_block hh)).trans hh, r⟩
theorem OA.row {W w : World} {B : Nat} {A : Option Addr} {n c : Nat} {M : List (List UInt8)} (h : OA W w B A n c M) (g : Nat) (hn : (Value.slice A n c).ownBlock = some g) : ∃ cs fr, w.heap[g]? = some (.cells cs 22 fr) := by
  obtain ⟨vs, h1, _⟩ := h
  rcases h1.2 with ⟨hv, _⟩ | ⟨g', cap, cur, hv, _, hh, _⟩
  · rw [hv] at hn; cases hn
  · rw [hv] at hn
    have e : g' = g := by simpa [Value.ownBlock] using hn
    subst e
    exact ⟨cur, (0, 0), hh⟩
theorem OA.apart {W w : World} {B B' : Nat} {A A' : Option Addr} {n c c' : Nat} {M : List (List UInt8)} {l : List UInt8} (h : OA W w B A n c M) (h' : OB w B' 5 A' c' l) : ((Value.slice A' l.length c').ownBlock = none ∨ (Value.slice A' l.length c').ownBlock ≠ (Value.slice A n c).ownBlock) ∧ ((Value.slice A n c).ownBlock = none ∨ (Value.slice A n c).ownBlock ≠ (Value.slice A' l.length c').ownBlock) := by
  obtain ⟨vs, h1, _⟩ := h
  exact ⟨rows_apart h' h1 (by decide), rows_apart h1 h' (by decide)⟩
theorem OA.grown {W w w' : World} {B B' : Nat} {A A' : Option Addr} {n c c' : Nat} {M : List (List UInt8)} {l : List UInt8} (h : OA W w B A n c M) (h' : OB w B' 5 A' c' l) (hg : w.grownBy w' (Value.slice A' l.length c').ownBlock) : OA W w' B A n c M := by
  have ha := (OA.apart h h').2
  obtain ⟨vs, h1, h2⟩ := h
  exact ⟨vs, h1.kept hg ha, h2⟩
/-- append of one slice that came in, just laid into a row of its own. -/
theorem wp_appa1 {ops : Array Oper} {rest : List Oper} {o : Oper} {a : Act} {Q : Exit → Act → World → Prop} {w : World} (hgd : o.guard = none) (s x : Operand)
    (ho : o.op = .call { callee := .builtin .append, args := #[s, x], argTypes := #[27, 27] }) (W : World) (B : Nat) (M : List (List UInt8)) (A : Option Addr) (n c : Nat) (hs : a.eval s = .slice A n c) (hown : OA W w B A n c M)
    (l : List UInt8) (A' : Option Addr) (m c' : Nat) (hx : a.eval x = .slice (some ⟨w.heap.size, 0, none⟩) 1 1) (hl : l.length = m) (hel : El W W.heap.size A' c' l)
    (hlen : n + 1 ≤ 1099511627776) (hbase : B ≤ w.heap.size)
    (h : ∀ A2 c2 w', OA W w' B A2 (n + 1) c2 (M ++ [l]) → (w.alloc (.cells #[.slice A' m c'] 22)).grownBy w' (Value.slice A n c).ownBlock → Below B w w' → wpList Try.prog ops Q rest (a.put o.dst (.slice A2 (n + 1) c2)) w') : wpList Try.prog ops Q (o :: rest) a (w.alloc (.cells #[.slice A' m c'] 22)) := by
  have hb := (Below.refl w.heap.size w).alloc (Nat.le_refl _) (.cells #[.slice A' m c'] 22)
  obtain ⟨vs, h1, h2⟩ := hown.below hb
  have hcell := cell_one_new w (.slice A' m c') 22
  obtain ⟨i, hi1, hz, hsz, hby⟩ := info_parts fr_info
  refine wpList_append_own _ hgd s x 27 ho B 22 i (.slice none 0 0) 1 24 Try.underlying27 hi1 hz hsz hby rfl (by decide) _ n vs hs h1 ⟨w.heap.size, 0, none⟩ 1 1 [.slice A' m c'] hx rfl hcell (fun u hu => by rw [List.mem_singleton.1 hu]; rfl) (by unfold maxLen; omega) (by omega) (Nat.le_trans hbase hb.size) ?_
  intro v' w' hown' hg _
  have hbel : Below B w w' := (hb.mono hbase).trans ((Below.refl B _).grown hg (Nat.le_trans hbase hb.size) (fun k hk => (World.ownsRow.lt h1 k hk).1))
  obtain ⟨g, cap, rfl⟩ := ownsRow_succ hown'
  exact h (some ⟨g, 0, none⟩) cap w' ⟨_, hown', h2.app (Els.one hel hl)⟩ hg hbel

set_option maxRecDepth 100000 in
set_option maxHeartbeats 8000000 in
theorem walk_FrameBack (A : Option Addr) (L : List (List UInt8)) (n c : Nat) (W : World) (w0 : InF W A L n c) :
    Calls Try.prog 4 #[.slice A n c] W fun e w' => e = .returned (.bool true) ∧ Below W.heap.size W w' := by
  have hmx := w0.max
  have hcn := w0.cap
  unfold maxLen at hmx
  have HL := Lib.hid w0.len
  have HR := Lib.hid w0.rl
  clear w0
  go_enter Try.func4, Try.ntmps4
  go_wp2_with fail
  refine (fhead_ok _).mono ?_
  rintro e w1 ⟨rfl, hb1⟩
  have B1 := Lib.hid hb1
  clear hb1
  go_wp2_with fail
  refine (fgreat_ok A n c L _ w1 HL.out hcn hmx (HR.out.below B1.out)).mono ?_
  rintro e w2 ⟨v, rfl, hv, hb2⟩
  have B2 := Lib.hid (B1.out.trans (hb2.mono B1.out.size))
  clear hb2
  cases v with
  | true =>
    go_wp2_with fail
    go_ret
    exact ⟨rfl, B2.out⟩
  | false =>
  have hn9 : n ≤ 20000 := by have := hv rfl; omega
  clear hv
  have HZ := Lib.hid (show W.heap.size ≤ w2.heap.size from B2.out.size)
  go_wp2_with fail
  go_loopw [4, 5, 6] (fun v4 v5 v6 wr => ∃ (i m4 m5 : Nat) (A4 A5 : Option Addr) (c4 c5 : Nat) (M : List (List UInt8)), i ≤ n ∧ v6 = .int .i64 (i : Int) ∧ v4 = .slice A4 m4 c4 ∧ v5 = .slice A5 m5 c5 ∧ m4 ≤ i ∧ m5 ≤ 202 * i ∧
    Hid (M.length = m4) ∧ Hid ((joinF M).length = m5) ∧ Hid (∀ x ∈ M, fineB x = true) ∧ Hid (OA W wr w2.heap.size A4 m4 c4 M) ∧ Hid (OB wr w2.heap.size 5 A5 c5 (joinF M)) ∧ Hid (Below w2.heap.size w2 wr)) (fun _ _ v6 _ => n - (intOf v6).toNat)
  case atStart => exact ⟨0, 0, 0, none, none, 0, 0, [], by omega, rfl, rfl, rfl, by omega, by omega, Lib.hid rfl, Lib.hid rfl, Lib.hid (fun x h => by cases h), Lib.hid ⟨[], World.ownsRow_nil _ _ _ 1, trivial⟩, Lib.hid (OB.nil _ _ _), Lib.hid (Below.refl _ _)⟩
  case round =>
    obtain ⟨i, m4, m5, A4, A5, c4, c5, M, hi, rfl, rfl, rfl, hm4, hm5, HM4, HM5, HF, HOA, HOB, HB⟩ := hrel
    have BW := Lib.hid (B2.out.trans (HB.out.mono HZ.out))
    by_cases hi1 : i < n
    · have hi2 : (i : Int) < (n : Int) := by omega
      have hi5 : decide (i < n) = true := decide_eq_true hi1
      have hiL : i < L.length := by rw [HL.out]; exact hi1
      obtain ⟨b1, o1, X1, y1, rfl, hb1, hc1, he1⟩ := HR.out.at_ i hiL
      obtain ⟨x, hx⟩ : ∃ x, L[i] = x := ⟨_, rfl⟩
      rw [hx] at hc1 he1
      obtain ⟨xn, hxn⟩ : ∃ xn, x.length = xn := ⟨_, rfl⟩
      rw [hxn] at hc1
      have hxy : xn ≤ 9223372036854775807 := by have h1 := he1.cap; have h2 := he1.max; rw [hxn] at h1; omega
      have HXN := Lib.hid hxn
      have HEL := Lib.hid he1
      have HCELL := Lib.hid (fun u (h : Below W.heap.size W u) => (h.cell (p := ⟨b1, o1 + i, none⟩) hb1).trans hc1)
      have hcr := HCELL.out wr BW.out
      have HPUT := put_ok X1 xn y1 x wr hxn (fun h => by have := he1.nil_ h; omega) (he1.below BW.out).rb
      clear hc1 he1 hiL hx hb1
      cases hf : fineB x with
      | true =>
        obtain ⟨hf0, hf2⟩ := (fine_iff x).1 hf
        rw [hxn] at hf0 hf2
        have hpl := put_len x hf
        rw [hxn] at hpl
        rw [hpl] at HPUT
        have HPL := Lib.hid hpl
        have HFX := Lib.hid hf
        have hx0 : (0 : Int) < (xn : Int) := by omega
        have hx2 : (xn : Int) ≤ 200 := by omega
        have hx3 : decide (xn ≤ 200) = true := decide_eq_true hf2
        have HPUT := Lib.hid HPUT
        clear hf hpl hxn
        go_wp2_with fail
        refine HPUT.out.mono ?_
        rintro e w3 ⟨A7, c7, rfl, ho7, hn7, hb7⟩
        have hcr3 := HCELL.out w3 (BW.out.trans (hb7.mono BW.out.size))
        have HO7 := Lib.hid (show El w3 0 A7 c7 (putF x) from ho7.el hn7)
        have HN7 := Lib.hid (show A7 = none → xn + 2 = 0 ∧ c7 = 0 from fun h => by have := OB.nil_ ho7 h; rw [HPL.out] at this; exact this)
        have HB3 := Lib.hid (HB.out.trans (hb7.mono HB.out.size))
        have HOA3 := Lib.hid (HOA.out.below hb7)
        have HOB3 := Lib.hid (HOB.out.stay hb7 (Nat.le_refl _))
        clear ho7 hn7 hb7 hcr HPUT HOA HOB
        go_wp2_with (first | (at_builtin; refine wp_appa1 rfl (.tmp 61) (.tmp 66) rfl W w2.heap.size M A4 m4 c4 rfl HOA3.out x X1 xn y1 rfl HXN.out HEL.out (by omega) HB3.out.size ?_; intro A8 c8 w8 ho8 hg8 hb8; have HOA8 := Lib.hid ho8; have HB8 := Lib.hid (HB3.out.trans hb8); have HO8 := Lib.hid (HO7.out.below ((Below.refl w3.heap.size w3).alloc (Nat.le_refl _) (.cells #[.slice X1 xn y1] 22)) |>.grown hg8 (fun g hgx => ⟨Nat.zero_le _, OA.row (HOA3.out.below ((Below.refl w3.heap.size w3).alloc (Nat.le_refl _) (.cells #[.slice X1 xn y1] 22))) g hgx⟩)); have HOB8 := Lib.hid (OB.grown (HOB3.out.alloc (.cells #[.slice X1 xn y1] 22)) hg8 (OA.apart (HOA3.out.below ((Below.refl w3.heap.size w3).alloc (Nat.le_refl _) (.cells #[.slice X1 xn y1] 22))) (HOB3.out.alloc (.cells #[.slice X1 xn y1] 22))).1); clear ho8 hg8 hb8) | (at_builtin; refine wp_app_n rfl (.tmp 68) (.tmp 69) 22 5 rfl Try.underlying22 bytesInfo w2.heap.size (joinF M) A5 m5 c5 rfl HM5.out HOB8.out (putF x) A7 (xn + 2) c7 _ rfl HPL.out HN7.out HO8.out.rb (by omega) HB8.out.size _ rfl ?_; intro A9 c9 w9 ho9 hg9 hb9; have HO9 := Lib.hid ho9; have HOA9 := Lib.hid (OA.grown HOA8.out HOB8.out (by rw [HM5.out]; exact hg9)); have HB9 := Lib.hid (HB8.out.trans hb9); clear ho9 hg9 hb9))
        go_roundw
        case rel =>
          exact ⟨i + 1, m4 + 1, m5 + (xn + 2), A8, A9, c8, c9, M ++ [x], by omega, by go_num, rfl, rfl, by omega, by omega, Lib.hid (by rw [List.length_append, HM4.out]; rfl), Lib.hid (by rw [join_snoc, List.length_append, HM5.out, HPL.out]),
            Lib.hid (fun y hy => by
              rcases List.mem_append.1 hy with h | h
              · exact HF.out y h
              · rw [List.mem_singleton.1 h]; exact HFX.out), HOA9, Lib.hid (by rw [join_snoc]; exact HO9.out), HB9⟩
        case measure => simp [intOf]; omega
      | false =>
        have hpn := put_none x hf
        rw [hpn] at HPUT
        have HPUT := Lib.hid HPUT
        have hx0 : xn = 0 ∨ 200 < xn := by
          rcases Nat.eq_zero_or_pos xn with h | h
          · exact .inl h
          · right
            rcases Nat.lt_or_ge 200 xn with h2 | h2
            · exact h2
            · rw [(fine_iff x).2 (by rw [hxn]; exact ⟨by omega, by omega⟩)] at hf; cases hf
        clear hf hpn
        rcases hx0 with h0 | h2
        · subst h0
          clear hxn
          go_wp2_with fail
          refine HPUT.out.mono ?_
          rintro e w3 ⟨A7, c7, rfl, ho7, hn7, hb7⟩
          have hcr3 := HCELL.out w3 (BW.out.trans (hb7.mono BW.out.size))
          have HB3 := Lib.hid (HB.out.trans (hb7.mono HB.out.size))
          have HOA3 := Lib.hid (HOA.out.below hb7)
          have HOB3 := Lib.hid (HOB.out.stay hb7 (Nat.le_refl _))
          clear ho7 hn7 hb7 hcr HPUT HOA HOB
          go_wp2_with fail
          go_roundw
          case rel => exact ⟨i + 1, m4, m5, A4, A5, c4, c5, M, by omega, by go_num, rfl, rfl, by omega, by omega, HM4, HM5, HF, HOA3, HOB3, HB3⟩
          case measure => simp [intOf]; omega
        · have hx0 : (0 : Int) < (xn : Int) := by omega
          have hx1 : 0 < xn := by omega
          have hx2 : (200 : Int) < (xn : Int) := by omega
          have hx3 : decide (xn ≤ 200) = false := decide_eq_false (by omega)
          clear hxn
          go_wp2_with fail
          refine HPUT.out.mono ?_
          rintro e w3 ⟨A7, c7, rfl, ho7, hn7, hb7⟩
          have hcr3 := HCELL.out w3 (BW.out.trans (hb7.mono BW.out.size))
          have HB3 := Lib.hid (HB.out.trans (hb7.mono HB.out.size))
          have HOA3 := Lib.hid (HOA.out.below hb7)
          have HOB3 := Lib.hid (HOB.out.stay hb7 (Nat.le_refl _))
          clear ho7 hn7 hb7 hcr HPUT HOA HOB
          go_wp2_with fail
          go_roundw
          case rel => exact ⟨i + 1, m4, m5, A4, A5, c4, c5, M, by omega, by go_num, rfl, rfl, by omega, by omega, HM4, HM5, HF, HOA3, HOB3, HB3⟩
          case measure => simp [intOf]; omega
    · have hi2 : decide ((i : Int) < (n : Int)) = false := decide_eq_false (by omega)
      have hi5 : decide (i < n) = false := decide_eq_false hi1
      obtain ⟨z1, z2, z3⟩ := cut_parts M [] HF.out rfl
      rw [List.append_nil] at z1 z2 z3
      have hcap5 : m5 ≤ c5 := by have := HOB.out.cap.1; rw [HM5.out] at this; exact this
      have HCUT := cut_ok A5 m5 c5 (joinF M) wr HM5.out hcap5 HOB.out.cap.2 (by omega) HOB.out.rb
      rw [z1, z2, z3, HM4.out, HM5.out, (rfl : errF [] = 0)] at HCUT
      have HCUT := Lib.hid HCUT
      have HOLr := Lib.hid (OA.ol HOA.out HM4.out BW.out)
      clear z1 z2 z3
      go_wp2_with fail
      refine HCUT.out.mono ?_
      rintro e w3 ⟨A7, c7, rfl, ho7, hb7⟩
      have HC7 := Lib.hid (show m4 ≤ c7 ∧ c7 ≤ 9223372036854775807 from by have := ho7.cap; rw [HM4.out] at this; exact this)
      have HC4 := Lib.hid (show m4 ≤ c4 ∧ c4 ≤ 9223372036854775807 from by have := HOLr.out.cap; rw [HM4.out] at this; exact this)
      have hS := same_ok A7 m4 c7 M A4 m4 c4 M 0 W.heap.size w3 HM4.out HM4.out HC7.out.1 HC7.out.2 HC4.out.1 HC4.out.2 ho7.rl (HOLr.out.rl.below hb7)
      rw [decide_eq_true (rfl : M = M)] at hS
      have HS := Lib.hid hS
      have HB3 := Lib.hid (BW.out.trans (hb7.mono BW.out.size))
      clear ho7 hb7 hS HCUT
      go_wp2_with fail
      refine HS.out.mono ?_
      rintro e wz ⟨rfl, hbz⟩
      have HBZ := Lib.hid (HB3.out.trans (hbz.mono HB3.out.size))
      clear hbz HS
      go_wp2_with fail
      go_ret
      exact ⟨rfl, HBZ.out⟩
end Go.Proofs.Ytcmcmbgdakcmmaa
