/- Tick. -/
import Derived.Test.YtdfllobdefodfaaCk8
import Derived.Test.YtdfllobdefodfaaLib1
namespace Go.Proofs.Ytdfllobdefodfaa
set_option linter.unusedVariables false
set_option linter.unusedSimpArgs false
open Go.RowKit

variable {u : World} {F : List Nat} {c : Nat} {now : Int} {mb : Nat} {A : Option Addr} {cap : Nat} {l : List Al} {G : List Nat} {S : List Ky}

abbrev i64s (L : List Int) : List Value := L.map (fun x => Value.int .i64 x)
/-- The slice at A, of capacity c, owns the numbers L: it lies at block B or behind it. -/
def OI (w : World) (B : Nat) (A : Option Addr) (c : Nat) (L : List Int) : Prop := w.ownsRow B 3 1 (.slice A L.length c) L.length (i64s L)
theorem OI.nil (w : World) (B : Nat) : OI w B none 0 [] := World.ownsRow_nil w B 3 1
theorem OI.ke {w w' : World} {B : Nat} {A : Option Addr} {c : Nat} {L : List Int} {K : List Nat} (h : OI w B A c L) (k : Ke K w w') (hK : ∀ x ∈ K, x < B) : OI w' B A c L := by
  refine ⟨h.1, ?_⟩
  rcases h.2 with hn | ⟨g, cap, cur, hv, hg, hh, r⟩
  · exact .inl hn
  · refine .inr ⟨g, cap, cur, hv, hg, ?_, r⟩
    rw [k.block g (lt_of_block hh) (fun hx => by have := hK g hx; omega)]
    exact hh
theorem i64_info : (Try.prog.info? 3).map (fun i => (i.zero, i.size, i.bytes)) = some (some (.int .i64 0), 1, 8) := by kernel_rfl

/-- One number more. -/
theorem wp_app_int {ops : Array Oper} {rest : List Oper} {o : Oper} {a : Act} {Q : Exit → Act → World → Prop} {w : World} (hgd : o.guard = none) (s x : Operand)
    (ho : o.op = .call { callee := .builtin .append, args := #[s, x], argTypes := #[31, 31] }) (B : Nat) (L : List Int) (A : Option Addr) (n c : Nat) (hs : a.eval s = .slice A n c) (hn : L.length = n) (hown : OI w B A c L)
    (v : Int) (b : Nat) (hx : a.eval x = .slice (some ⟨b, 0, none⟩) 1 1) (hb : w.cell? ⟨b, 0, none⟩ = some (.int .i64 v)) (hlen : n ≤ 1048576) (hbase : B ≤ w.heap.size)
    (n' : Nat) (hn' : n' = n + 1)
    (h : ∀ A2 c2 w', OI w' B A2 c2 (L ++ [v]) → Below B w w' → wpList Try.prog ops Q rest (a.put o.dst (.slice A2 n' c2)) w') : wpList Try.prog ops Q (o :: rest) a w := by
  obtain ⟨i0, hi1, hz0, hs0, hb0⟩ := info_parts i64_info
  subst hn
  subst hn'
  refine wpList_append_own w hgd s x 31 ho B 3 i0 (.int .i64 0) 1 8 Try.underlying31 hi1 hz0 hs0 hb0 rfl (by decide) _ L.length (i64s L) hs hown ⟨b, 0, none⟩ 1 1 [.int .i64 v] hx rfl ?_ (by simp [Value.oneCell']) (by unfold maxLen; omega) (by omega) hbase ?_
  · intro j u hu
    have hj : j = 0 := by
      rcases Nat.eq_zero_or_pos j with h0 | h0
      · exact h0
      · rw [List.getElem?_eq_none (by simp; omega)] at hu; cases hu
    subst hj
    simp at hu
    subst hu
    rw [add_plain]
    exact hb
  · intro v' w' hown' hg _
    have hbel : Below B w w' := (Below.refl B w).grown hg hbase (fun k hk => (World.ownsRow.lt hown k hk).1)
    have hp : 0 < L.length + 1 := by omega
    obtain ⟨g, cap, rfl, _, _⟩ := World.ownsRow.form hown' hp
    refine h (some ⟨g, 0, none⟩) cap w' ?_ hbel
    unfold OI
    rw [List.length_append, show i64s (L ++ [v]) = i64s L ++ [.int .i64 v] by simp]
    exact hown'

theorem Ke.ofBelow {B : Nat} {w w' : World} (h : Below B w w') : Ke ((List.range w.heap.size).filter (fun k => decide (B ≤ k))) w w' :=
  ⟨h.os, h.tape, h.output, h.size, fun k hk hn => h.block k (by
    simp only [List.mem_filter, List.mem_range, decide_eq_true_eq, not_and] at hn
    have := hn hk
    omega)⟩
theorem Ck.below {u' : World} {B : Nat} (h : Ck u G c now S) (k : Below B u u') (hB : ∀ y ∈ G, y < B) : Ck u' G c now S :=
  h.ke (Ke.ofBelow k) (fun x hx hg => by
    simp only [List.mem_filter, List.mem_range, decide_eq_true_eq] at hx
    have := hB x hg
    omega)
theorem Ke.andBelow {L : List Nat} {u w w' : World} {B : Nat} (h : Ke L u w) (k : Below B w w') (hB : u.heap.size ≤ B) : Ke L u w' :=
  ⟨k.os.trans h.os, k.tape.trans h.tape, k.output.trans h.output, Nat.le_trans h.size k.size, fun i hi hL => (k.block i (by omega)).trans (h.block i hi hL)⟩

/-- How many wait, in memory. -/
def cnt (c : Nat) (w : World) : Nat := match w.cell? ⟨c, 2, none⟩ with | some (.slice _ n _) => n | _ => 0
theorem Ck.cnt (h : Ck u G c now S) : cnt c u = S.length := by
  obtain ⟨mb, F, A, cap, l, h1, _, _, _, h5, _⟩ := h.ex
  unfold Go.Proofs.Ytdfllobdefodfaa.cnt
  rw [h1.ck.cells3.2.2, ← h5.length_eq, ks_length]
/-- The time turned. -/
theorem Ck.time (h : Ck u G c now S) (nw : Int) (h0 : 0 ≤ nw) (h1 : nw ≤ 1099511627776) : Ck (u.setCell ⟨c, 0, none⟩ (.int .i64 nw)) G c nw S ∧ Ke G u (u.setCell ⟨c, 0, none⟩ (.int .i64 nw)) := by
  obtain ⟨⟨mb, F, A, cap, l, k1, k2, k3, k4, k5, k6, k7⟩, k8, k9, k10, k11, k12⟩ := h
  have hmc : c ≠ mb := k2.ne k1.ck
  have hcG := k7 c k1.fc
  have hkc : Ke [c] u (u.setCell ⟨c, 0, none⟩ (.int .i64 nw)) := (Ke.refl _ _).set (p := ⟨c, 0, none⟩) (by simp) _
  refine ⟨⟨⟨mb, F, A, cap, l, ⟨k1.ck.set 0 _, ?_, fun i hi => (k1.als i hi).far ((k1.als i hi).ne k1.ck (by decide)) _, k1.few, k1.fc, k1.fl⟩, k2.ke hkc (by simpa using hmc.symm), k3, k4, k5, k6, k7⟩, k8, h0, h1, k11, fun y hy => ?_⟩, (Ke.refl G u).set (p := ⟨c, 0, none⟩) hcG _⟩
  · rcases k1.row with e | ⟨g, cur, e1, e2, e3, r⟩
    · exact .inl e
    · exact .inr ⟨g, cur, e1, e2, e3.far (k1.ck.ne e3 (by decide)).symm _, r⟩
  · rw [World.size_setCell]; exact k12 y hy

/-- What Tick's loop keeps. -/
structure Tk (u wr : World) (G : List Nat) (c : Nat) (nw : Int) (S : List Ky) (A : Option Addr) (n cp : Nat) : Prop where
  ex : ∃ L S', L.length = n ∧ OI wr u.heap.size A cp L ∧ Ck wr G c nw S' ∧ goM nw S = L ++ goM nw S' ∧ stayM nw S = stayM nw S' ∧ n + S'.length ≤ 1024
  k : Ke G u wr

/-- What Tick leaves. -/
structure TickPost (u : World) (G : List Nat) (c : Nat) (now : Int) (S : List Ky) (n : Int) (e : Ending) (u' : World) : Prop where
  bad : (n < 0 ∨ 1099511627776 - now < n) → e = .returned (.tuple #[.slice none 0 0, .int .i64 1]) ∧ Ck u' G c now S
  fine : ¬ (n < 0 ∨ 1099511627776 - now < n) → ∃ A cp, e = .returned (.tuple #[.slice A (goM (now + n) S).length cp, .int .i64 0]) ∧ OI u' u.heap.size A cp (goM (now + n) S) ∧ Ck u' G c (now + n) (stayM (now + n) S)
  k : Ke G u u'

theorem Tk.start (h : Ck u G c now S) (nw : Int) (h0 : 0 ≤ nw) (h1 : nw ≤ 1099511627776) : Tk u (u.setCell ⟨c, 0, none⟩ (.int .i64 nw)) G c nw S none 0 0 := by
  obtain ⟨k1, k2⟩ := h.time nw h0 h1
  exact ⟨⟨[], S, rfl, OI.nil _ _, k1, rfl, rfl, by have := h.few; omega⟩, k2⟩

set_option maxRecDepth 100000 in
set_option maxHeartbeats 8000000 in
theorem tick_ok (u : World) (h : Ck u G c now S) (n : Int) (hn : Wf n) :
    Calls Try.prog 14 #[.pointer (some ⟨c, 0, none⟩), .int .i64 n] u (TickPost u G c now S n) := by
  have H := Lib.hid h
  have ht0 := h.t0
  have ht1 := h.t1
  have HLOW := Lib.hid h.low
  obtain ⟨mb, F, A, cap, l, h1, _⟩ := h.ex
  obtain ⟨c0, c1, c2⟩ := h1.ck.cells3
  have fc := h1.ck.frozen 0
  clear h h1
  by_cases hneg : n < 0
  · go_enter Try.func14, Try.ntmps14
    go_wp2_with fail
    go_returns
    exact ⟨fun _ => ⟨rfl, H.out⟩, fun hh => absurd (.inl hneg) hh, Ke.refl _ _⟩
  · have hd : decide (n < 0) = false := by simp; omega
    by_cases hbig : 1099511627776 - now < n
    · go_enter Try.func14, Try.ntmps14
      go_wp2_with fail
      go_returns
      exact ⟨fun _ => ⟨rfl, H.out⟩, fun hh => absurd (.inr hbig) hh, Ke.refl _ _⟩
    · have hd2 : decide (1099511627776 - now < n) = false := by simp; omega
      obtain ⟨nw, hnw⟩ : ∃ nw, nw = now + n := ⟨_, rfl⟩
      have hq : now + n = nw := hnw.symm
      have HT := Lib.hid (Tk.start H.out nw (by omega) (by omega))
      have HNW := Lib.hid (show nw = now + n ∧ ¬ (n < 0 ∨ 1099511627776 - now < n) from ⟨hnw, by omega⟩)
      have hnw0 : 0 ≤ nw := by omega
      have hnw1 : nw ≤ 1099511627776 := by omega
      clear hnw
      go_enter Try.func14, Try.ntmps14
      go_wp2_with fail
      go_loopw [6] (fun v6 wr => ∃ (A : Option Addr) (k cp : Nat), v6 = .slice A k cp ∧ Hid (Tk u wr G c nw S A k cp)) (fun _ wr => cnt c wr)
      case atStart => exact ⟨none, 0, 0, rfl, HT⟩
      case round =>
        obtain ⟨A, k, cp, rfl, HR⟩ := hrel
        obtain ⟨⟨L, S', e1, e2, e3, e4, e5, e6⟩, ek⟩ := HR.out
        have HRX := Lib.hid (And.intro e1 (And.intro e2 (And.intro e3 (And.intro e4 (And.intro e5 ek)))))
        have hk4 : k ≤ 1024 := by omega
        obtain ⟨mb, F, A', cap, l, h1, h2, h3, h4, h5, h6, h7⟩ := e3.ex
        obtain ⟨d0, d1, d2⟩ := h1.ck.cells3
        cases S' with
        | nil =>
          have hl0 : l.length = 0 := by rw [← ks_length, h5.length_eq]; rfl
          rw [hl0] at d2
          have HEND := Lib.hid (show goM nw S = L ∧ stayM nw S = [] by rw [e4, e5]; simp [goM, stayM])
          clear c0 c1 c2 fc h1 h2 h3 h4 h5 h6 h7 e1 e2 e3 e4 e5 e6 ek hl0
          go_wp2_with fail
          go_quiet (fail)
          go_wp2_with fail
          go_returns
          obtain ⟨e1, e2, e3, e4, e5, ek⟩ := HRX.out
          refine ⟨fun hh => absurd hh HNW.out.2, fun _ => ⟨A, cp, ?_, ?_, ?_⟩, ek.drewN _⟩
          · rw [← HNW.out.1, HEND.out.1, e1]; rfl
          · rw [← HNW.out.1, HEND.out.1]
            exact e2.ke (K := []) ((Ke.refl _ _).drewN _) (by simp)
          · rw [← HNW.out.1, HEND.out.2]
            exact e3.ke (L := []) ((Ke.refl _ _).drewN _) (by simp)
        | cons y S' =>
          have hl1 : l.length = S'.length + 1 := by rw [← ks_length, h5.length_eq]; rfl
          obtain ⟨g, cur, rfl, hg, hb, hc1, hc2, hc3, hcell⟩ := h1.at_ (i := 0) (by omega)
          have htop := top_is h4 h5 e3.srt (by omega)
          have g0 := (hb.cell 0).trans (hcell 0 (by omega))
          obtain ⟨x0, x1, x2⟩ := (h1.als 0 (by omega)).cells3
          have hxt : (nth l 0).t = y.2 := congrArg Prod.snd htop
          have hxi : (nth l 0).id = y.1 := congrArg Prod.fst htop
          have hpos : (0 : Int) < ((S'.length + 1 : Nat) : Int) := by omega
          have hpos2 : 0 < S'.length + 1 := by omega
          have hpos3 : decide (0 < S'.length + 1) = true := by simp
          rw [hl1] at d2
          by_cases hy : y.2 ≤ nw
          · have HT := Lib.hid (show ∀ w, Ke [] wr w → Calls Try.prog 24 #[.pointer (some ⟨c, 0, none⟩), .int .i64 0] w fun e w' => e = .returned (.int .i64 y.1) ∧ Ck w' G c nw S' ∧ Ke G w w' from
              fun w kw => (take_ok w (h1.ke kw (by simp)) (h2.ke kw (by simp)) h3 0 S'.length hl1 (by omega) (hl1 ▸ h4)).mono fun e w' hp => by
                have q := take_ck hp h3 h5 e3.srt e3.t0 e3.t1 e3.few (fun y hy => Nat.lt_of_lt_of_le (e3.low y hy) kw.size) h6 h7
                rw [hxi, out_head e3.srt] at q
                exact ⟨by rw [hp.e, hxi], q⟩)
            have HNX := Lib.hid (show goM nw S = (L ++ [y.1]) ++ goM nw S' ∧ stayM nw S = stayM nw S' ∧ k + 1 + S'.length ≤ 1024 by
              obtain ⟨q1, q2⟩ := go_cons (S := S') (n := nw) hy
              rw [e4, e5, q1, q2]
              simp at e6 ⊢
              omega)
            have HCNT := Lib.hid e3.cnt
            rw [hxt] at x1
            generalize (nth l 0).b = b at *
            generalize hn1 : S'.length + 1 = n1 at *
            clear c0 c1 c2 fc h1 h2 h3 h4 h5 h6 h7 e1 e2 e3 e4 e5 e6 ek hb hcell hc1 hc2 hc3 htop hxt hxi x0 x2 hl1 hg
            go_wp2_with fail
            go_quiet (fail)
            go_wp2_with (first
              | (go_at_call 24; refine (HT.out _ ((Ke.refl _ _).drewN _)).mono ?_; rintro e w2 ⟨rfl, k1, k2⟩; have H2 := Lib.hid (And.intro k1 (show Ke G wr w2 from (((Ke.refl [] wr).drewN _).nil).trans k2)); clear k1 k2)
              | (refine wp_app_int rfl (.tmp 48) (.tmp 51) rfl u.heap.size L A k cp rfl HRX.out.1 ((HRX.out.2.1.ke H2.out.2 HLOW.out).ke (K := []) ((Ke.refl _ _).alloc _) (by simp)) y.1 w2.heap.size rfl (by rw [(Bk.here rfl).cell]; rfl) (by omega) (by have := HRX.out.2.2.2.2.2.size; have := H2.out.2.size; rw [World.size_alloc]; omega) (k + 1) rfl ?_; intro A2 c2 w3 k1 k2; have H3 := Lib.hid (And.intro k1 k2); clear k1 k2))
            have hck3 : Ck w3 G c nw S' := (H2.out.1.ke (L := []) ((Ke.refl _ _).alloc _) (by simp)).below H3.out.2 HLOW.out
            have HK3 := Lib.hid hck3
            clear hck3
            go_roundw
            case rel => exact ⟨A2, k + 1, c2, rfl, Lib.hid ⟨⟨L ++ [y.1], S', by rw [List.length_append, HRX.out.1]; rfl, H3.out.1, HK3.out, HNX.out.1, HNX.out.2.1, HNX.out.2.2⟩, ((HRX.out.2.2.2.2.2.trans H2.out.2).alloc _).andBelow H3.out.2 (Nat.le_refl _)⟩⟩
            case measure =>
              show cnt c w3 < cnt c wr
              rw [HK3.out.cnt, HCNT.out]
              simp
          · have hy2 : decide (y.2 ≤ nw) = false := by simp; omega
            have HEND := Lib.hid (show goM nw S = L ∧ stayM nw S = y :: S' by
              obtain ⟨q1, q2⟩ := stay_all e3.srt hy
              rw [e4, e5, q1, q2]; simp)
            rw [hxt] at x1
            generalize (nth l 0).b = b at *
            generalize hn1 : S'.length + 1 = n1 at *
            clear c0 c1 c2 fc h1 h2 h3 h4 h5 h6 h7 e1 e2 e3 e4 e5 e6 ek hb hcell hc1 hc2 hc3 htop hxt hxi x0 x2 hl1 hg
            go_wp2_with fail
            go_quiet (fail)
            go_wp2_with fail
            go_returns
            obtain ⟨e1, e2, e3, e4, e5, ek⟩ := HRX.out
            refine ⟨fun hh => absurd hh HNW.out.2, fun _ => ⟨A, cp, ?_, ?_, ?_⟩, ek.drewN _⟩
            · rw [← HNW.out.1, HEND.out.1, e1]; rfl
            · rw [← HNW.out.1, HEND.out.1]
              exact e2.ke (K := []) ((Ke.refl _ _).drewN _) (by simp)
            · rw [← HNW.out.1, HEND.out.2]
              exact e3.ke (L := []) ((Ke.refl _ _).drewN _) (by simp)
end Go.Proofs.Ytdfllobdefodfaa
