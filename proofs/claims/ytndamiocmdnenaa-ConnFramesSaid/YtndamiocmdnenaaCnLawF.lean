/- ConnFrames: frames that come in pieces: the walk. (Written by gen_cnframes.py.) -/
import Derived.Test.YtndamiocmdnenaaCnFr
import Derived.Test.YtndamiocmdnenaaFrR3
import Derived.Test.YtndamiocmdnenaaHere
import Derived.Test.YtndamiocmdnenaaOpen
namespace Go.Proofs.Ytndamiocmdnenaa
set_option linter.unusedVariables false
set_option maxRecDepth 100000
set_option linter.unusedSimpArgs false
open Go.RowKit

/-- Is it b[lo:hi] that stands at the head? -/
theorem slice_here {P : Program} {ops : Array Oper} {Q : Exit → Act → World → Prop} {rest : List Oper} {a : Act} {w : World} {d : Option Tmp} {t : TypeId} {x : Operand} {lo hi m : Option Operand} {ty : TypeId} {pos : String} {after : Array Edge} {g : Option (Nat × Bool)}
    (h : wpList P ops Q ({ dst := d, op := .slice t x lo hi m, type := ty, pos := pos, after := after, guard := g } :: rest) a w) : wpList P ops Q ({ dst := d, op := .slice t x lo hi m, type := ty, pos := pos, after := after, guard := g } :: rest) a w := h
def lenV : Value → Nat
  | .slice _ n _ => n
  | _ => 0

set_option maxRecDepth 100000 in
set_option maxHeartbeats 16000000 in
theorem walk_ConnFrames (Ab : Option Addr) (lb : List UInt8) (nb cb : Nat) (Ac : Option Addr) (lc : List UInt8) (nc cc : Nat) (W : World) (w0 : InB W Ab lb nb cb) (w1 : InB W Ac lc nc cc) :
    Calls Try.prog 6 #[.slice Ab nb cb, .slice Ac nc cc] W fun e w' => e = .returned (.bool true) ∧ Below W.heap.size W w' := by
  have hmx := w0.max
  have hcn := w0.cap
  unfold maxLen at hmx
  have HN := Lib.hid w0.nil_
  have HL := Lib.hid w0.len
  have HL' := Lib.hid w1.len
  have HR := Lib.hid (And.intro w0.rb w1.rb)
  clear w0 w1
  go_enter Try.func6, Try.ntmps6
  go_upto_region 2 with (go_at_call 10; (with_reducible refine (cnhead_ok _).mono ?_); rintro e u1 ⟨rfl, hb⟩; have HB1 := Lib.hid hb; clear hb)
  go_upto_region 3 with (go_at_call 11; (with_reducible refine (c_new HB1.out).mono ?_); rintro e u2 ⟨G2, tb, rfl, h1, h2, h3⟩; have HZ2 := Lib.hid h1; clear h1 h2 h3)
  by_cases hg : 9000 < nb
  · have hg2 : (9000 : Int) < (nb : Int) := by omega
    have hg4 : decide ((9000 : Int) < (nb : Int)) = true := decide_eq_true hg2
    go_wp2_with fail
    go_ret
    exact ⟨rfl, HZ2.out.l⟩
  have hg2 : decide ((9000 : Int) < (nb : Int)) = false := decide_eq_false (by omega)
  have hn9 : nb ≤ 9000 := by omega
  clear hg
  by_cases hg : 300 < nc
  · have hg3 : (300 : Int) < (nc : Int) := by omega
    have hg4 : decide ((300 : Int) < (nc : Int)) = true := decide_eq_true hg3
    go_wp2_with fail
    go_ret
    exact ⟨rfl, HZ2.out.l⟩
  have hg3 : decide ((300 : Int) < (nc : Int)) = false := decide_eq_false (by omega)
  have hn3 : nc ≤ 300 := by omega
  clear hg
  go_upto_region 6 with (go_at_call 14; (with_reducible refine (c_open HZ2.out gc_new (by decide) 0 1 0 (tOne (cn0 0)) open_one).mono ?_); rintro e u3 ⟨G, rfl, h1, -⟩; have HZ3 := Lib.hid (show Zc W u3 G tb (tOne (cnQ [])) from h1); clear h1)
  clear hg2 hg3
  go_wp2_with fail
  go_loopw [9, 10, 11, 12, 13] (fun v9 v10 v11 v12 v13 wr => ∃ (i k m9 bad : Nat) (A9 A0 : Option Addr) (c9 c0 : Nat) (q : List UInt8) (got : List (List UInt8)), i ≤ nc + 1 ∧ k ≤ nb ∧ v9 = .slice A9 m9 c9 ∧ v10 = .slice A0 k c0 ∧ v11 = .int .i64 (k : Int) ∧ v12 = .int .i64 (bad : Int) ∧ v13 = .int .i64 (i : Int) ∧ Hid (Zc W wr G tb (tOne (cnQ q))) ∧ Hid (Gwf W wr G A9 c9 got A0 c0 (lb.take k)) ∧ Hid (Pq lb k q got bad ∧ q.length ≤ 512 ∧ got.length = m9)) (fun _ _ _ _ v13 _ => nc + 1 - (intOf v13).toNat)
  case atStart => exact ⟨0, 0, 0, 0, none, none, 0, 0, [], [], by omega, by omega, rfl, rfl, rfl, rfl, rfl, HZ3, Lib.hid (by rw [List.take_zero]; exact Gwf.nil _ _ _), Lib.hid ⟨pq_new lb, by simp, rfl⟩⟩
  case round =>
    obtain ⟨i, k, m9, bad, A9, A0, c9, c0, q, got, hi, hk, rfl, rfl, rfl, rfl, rfl, HZ, HG, HP⟩ := hrel
    by_cases hi1 : i ≤ nc
    · have hi2 : (i : Int) ≤ (nc : Int) := by omega
      have hi5 : decide (i ≤ nc) = true := decide_eq_true hi1
      obtain ⟨r, hr⟩ : ∃ r, nb - k = r := ⟨_, rfl⟩
      have hrk : k + r = nb := by omega
      have y1 := (iwrap ((nb : Int) - (k : Int)) r (by omega) (by omega)).1
      have hr9 : r ≤ 9000 := by omega
      clear hr
      by_cases hin : i < nc
      · have hi3 : (i : Int) < (nc : Int) := by omega
        obtain ⟨b', o', rfl, _, cx⟩ := (HR.out.2.below HZ.out.l (Nat.le_refl _)).byte i (by rw [HL'.out]; exact hin)
        obtain ⟨u, hu⟩ : ∃ u, (lc[i]'(by rw [HL'.out]; exact hin)).toNat = u := ⟨_, rfl⟩
        rw [hu] at cx
        have hu9 : u ≤ 255 := by rw [← hu]; have := (lc[i]'(by rw [HL'.out]; exact hin)).toNat_lt; omega
        clear hu
        obtain ⟨nn, hnn⟩ : ∃ nn, min u r = nn := ⟨_, rfl⟩
        have HMN := Lib.hid (show min (u : Int) (r : Int) = (nn : Int) by omega)
        have hw3 : IntKind.i64.wrap (u : Int) = (u : Int) := by rw [IntKind.wrap_i64]; omega
        have hqr : k + nn ≤ nb := by omega
        clear hnn
        go_upto_region 16 with (refine wpList_min rfl (.tmp 64) (.tmp 65) 3 rfl _ _ _ rfl rfl HMN.out ?_)
        clear cx hw3 y1
        obtain ⟨X, hX⟩ : ∃ X, (lb.drop k).take nn = X := ⟨_, rfl⟩
        have hxl : X.length = nn := by rw [← hX, List.length_take, List.length_drop, HL.out]; omega
        obtain ⟨kk, hkk⟩ : ∃ kk, min nn (512 - q.length) = kk := ⟨_, rfl⟩
        obtain ⟨Y, hY⟩ : ∃ Y, (lb.drop k).take kk = Y := ⟨_, rfl⟩
        have hyl : Y.length = kk := by rw [← hY, List.length_take, List.length_drop, HL.out]; omega
        have hfe := fe_q (X := X) HP.out.2.1
        rw [hxl, hkk, ← hX, List.take_take, Nat.min_comm (512 - q.length) nn, hkk, hY] at hfe
        rw [hX] at hfe
        have HFE := Lib.hid hfe
        clear hfe
        have HGQ := Lib.hid (gc_q HP.out.2.1)
        have hkn : kk ≤ nn := by omega
        obtain ⟨kn, hkn2⟩ : ∃ kn, k + nn = kn := ⟨_, rfl⟩
        obtain ⟨k2, hk2⟩ : ∃ k2, k + kk = k2 := ⟨_, rfl⟩
        have z1 := (iwrap ((k : Int) + (nn : Int)) kn (by omega) (by omega)).1
        have z2 := (iwrap ((k : Int) + (kk : Int)) k2 (by omega) (by omega)).1
        obtain ⟨TA, hTA⟩ : ∃ TA, tailA Ab cb k = TA := ⟨_, rfl⟩
        have HSM := Lib.hid (show ∀ v, (Instr.sliceAt 28 (.slice Ab nb cb) (some (.int .i64 (k : Int))) (some (.int .i64 (kn : Int))) none).run Try.prog v = .ok (.slice TA nn (cb - k)) v from fun v => by
          have h := slice_mid Ab nb cb k nn hqr hcn v
          rw [hTA, show (k : Int) + (nn : Int) = (kn : Int) by omega] at h
          exact h)
        have HSM2 := Lib.hid (show ∀ v, (Instr.sliceAt 28 (.slice Ab nb cb) (some (.int .i64 (k : Int))) (some (.int .i64 (k2 : Int))) none).run Try.prog v = .ok (.slice TA kk (cb - k)) v from fun v => by
          have h := slice_mid Ab nb cb k kk (by omega) hcn v
          rw [hTA, show (k : Int) + (kk : Int) = (k2 : Int) by omega] at h
          exact h)
        have HTN := Lib.hid (show TA = none → kk = 0 ∧ cb - k = 0 by rw [← hTA]; exact tail_nil HN.out (by omega))
        have HRX := Lib.hid (show ∀ v, Below W.heap.size W v → Rb v W.heap.size TA X ∧ Rb v W.heap.size TA Y from fun v hv => by
          have h := (HR.out.1.below hv (Nat.le_refl _)).tail k (by rw [HL.out]; exact hcn)
          rw [hTA] at h
          exact ⟨by rw [← hX]; exact h.front nn, by rw [← hY]; exact h.front kk⟩)
        have HXL := Lib.hid (And.intro hxl hyl)
        have HTK := Lib.hid (show lb.take k ++ Y = lb.take k2 by rw [← hY, ← hk2, List.take_add])
        have HF := Lib.hid (show Fq lb k2 (q ++ Y) got bad by rw [← hY, ← hk2]; exact HP.out.1.feed kk)
        have HQ5 := Lib.hid (show (q ++ Y).length ≤ 512 by rw [List.length_append, hyl]; have := HP.out.2.1; omega)
        obtain ⟨q2, hq2⟩ : ∃ q2, q ++ Y = q2 := ⟨_, rfl⟩
        rw [hq2] at HF HQ5 HFE
        have HK2 := Lib.hid hk2
        have HLK := Lib.hid (show (lb.take k).length = k by rw [List.length_take, HL.out]; omega)
        have x1 : ¬ ((kk : Int) < 0) := by omega
        have x2 : ¬ ((nn : Int) < (kk : Int)) := by omega
        have x3 : decide ((nn : Int) < (kk : Int)) = false := decide_eq_false x2
        have x4 : decide (nn < kk) = false := decide_eq_false (by omega)
        have x5 : decide ((kk : Int) < 0) = false := decide_eq_false x1
        have x6 : ¬ nn < kk := by omega
        have hk29 : k2 ≤ nb := by omega
        clear hX hxl hkk hY hyl hTA hq2 hkn2 hk2
        go_upto_region 17 with (first | ((with_reducible refine slice_here ?_); refine wpList_two rfl 28 (.tmp 69) (.tmp 70) (.tmp 73) rfl _ _ _ _ rfl rfl rfl (HSM.out _) ?_) | (go_at_call 28; (with_reducible refine (c_feed HZ.out HGQ.out 1 TA nn (cb - k) X HXL.out.1 (by omega) (by omega) ((HRX.out wr HZ.out.l).1.rf HZ.out.lo) kk (tOne (cnQ q2)) HFE.out).mono ?_); rintro e u4 ⟨rfl, h1, h2⟩; have HZ4 := Lib.hid h1; have HG4 := Lib.hid (HG.out.step h2); clear h1 h2))
        clear z1
        go_upto_region 20 with (first | ((with_reducible refine slice_here ?_); refine wpList_two rfl 28 (.tmp 84) (.tmp 85) (.tmp 88) rfl _ _ _ _ rfl rfl rfl (HSM2.out _) ?_) | (at_builtin; refine wp_gb rfl (.tmp 83) (.tmp 89) rfl k rfl HLK.out HG4.out HZ4.out.hi Y TA kk (cb - k) rfl HXL.out.2 HTN.out ((HRX.out u4 HZ4.out.l).2.more HZ4.out.l.size) HZ4.out.l.size (by omega) k2 HK2.out ?_; intro A2 c2 u5 hg hs; have HZ5 := Lib.hid (hs.out.z HZ4.out); have HG5 := Lib.hid (show Gwf W u5 G A9 c9 got A2 c2 (lb.take k2) by rw [← HTK.out]; exact hg.out); clear hg hs))
        go_wp2_with fail
        clear z2 x1 x2 x3 x4 x5 x6
        obtain ⟨mq, hmq⟩ : ∃ mq, m9 = mq := ⟨_, rfl⟩
        have HFM := Lib.hid (show got.length = mq from HP.out.2.2.trans hmq)
        try rw [hmq]
        clear hmq
        go_loopw [9, 12] (fun v9 v12 w9 => ∃ (q3 : List UInt8) (m bd : Nat) (A9 : Option Addr) (c9 : Nat) (got : List (List UInt8)), v9 = .slice A9 m c9 ∧ v12 = .int .i64 (bd : Int) ∧ Hid (Zc W w9 G tb (tOne (cnQ q3))) ∧ Hid (Gwf W w9 G A9 c9 got A2 c2 (lb.take k2)) ∧ Hid (Fq lb k2 q3 got bd ∧ q3.length ≤ 512 ∧ got.length = m)) (fun v9 _ _ => k2 - lenV v9)
        case atStart => exact ⟨q2, mq, bad, A9, c9, got, rfl, rfl, HZ5, HG5, Lib.hid ⟨HF.out, HQ5.out, HFM.out⟩⟩
        case round =>
          obtain ⟨q3, m, bd, A8, c8, gt, rfl, rfl, HZ6, HG6, HF6⟩ := hrel
          have hm9 : m ≤ k2 := by have := HF6.out.1.count; rw [HF6.out.2.2] at this; exact this
          have HXI := Lib.hid (And.intro HL.out HZ6.out.hi)
          cases hb : begB q3 with
          | false =>
            have HNE := Lib.hid (ne_bad HF6.out.2.1 hb)
            have HP7 := Lib.hid (show Pq lb k2 q3 gt 61 ∧ q3.length ≤ 512 ∧ gt.length = m from ⟨HF6.out.1.bad hb, HF6.out.2⟩)
            rcases (show bd = 0 ∨ bd = 61 by rcases HF6.out.1.w with e | e; exact .inl e; exact .inr e.1) with rfl | rfl
            · go_wp2_with (go_at_call 29; (with_reducible refine (c_next HZ6.out (gc_q HF6.out.2.1) 1 0 [] false 61 (tOne (cnQ q3)) HNE.out rfl).mono ?_); rintro e u7 ⟨A7, c7, rfl, h0, h1, h2⟩; have HZ7 := Lib.hid h1; have HG7 := Lib.hid (HG6.out.step h2); have HR7 := Lib.hid (h0.rf (G := owB A8 ++ (owB A2 ++ G)) (fun y hy => .inr (HG6.out.hi HZ6.out.hi y hy))); have HN7 := Lib.hid (And.intro h0.cap (And.intro h0.max h0.nil_)); clear h0 h1 h2)
              go_roundw
              case rel => exact ⟨i + 1, k2, m, 61, A8, A2, c8, c2, q3, gt, by omega, hk29, rfl, rfl, rfl, rfl, by go_num, HZ7, HG7, HP7⟩
              case measure => simp [intOf] <;> omega
            · go_wp2_with (go_at_call 29; (with_reducible refine (c_next HZ6.out (gc_q HF6.out.2.1) 1 0 [] false 61 (tOne (cnQ q3)) HNE.out rfl).mono ?_); rintro e u7 ⟨A7, c7, rfl, h0, h1, h2⟩; have HZ7 := Lib.hid h1; have HG7 := Lib.hid (HG6.out.step h2); have HR7 := Lib.hid (h0.rf (G := owB A8 ++ (owB A2 ++ G)) (fun y hy => .inr (HG6.out.hi HZ6.out.hi y hy))); have HN7 := Lib.hid (And.intro h0.cap (And.intro h0.max h0.nil_)); clear h0 h1 h2)
              go_roundw
              case rel => exact ⟨i + 1, k2, m, 61, A8, A2, c8, c2, q3, gt, by omega, hk29, rfl, rfl, rfl, rfl, by go_num, HZ7, HG7, HP7⟩
              case measure => simp [intOf] <;> omega
          | true =>
            by_cases h0 : lenF q3 = 0
            · have HNE := Lib.hid (ne_done HF6.out.2.1 hb h0)
              obtain ⟨hp7, rfl⟩ := HF6.out.1.done hb h0
              have HP7 := Lib.hid (show Pq lb k2 q3 gt 0 ∧ q3.length ≤ 512 ∧ gt.length = m from ⟨hp7, HF6.out.2⟩)
              clear hp7 h0 hb
              go_wp2_with (go_at_call 29; (with_reducible refine (c_next HZ6.out (gc_q HF6.out.2.1) 1 0 [] false 0 (tOne (cnQ q3)) HNE.out rfl).mono ?_); rintro e u7 ⟨A7, c7, rfl, h0, h1, h2⟩; have HZ7 := Lib.hid h1; have HG7 := Lib.hid (HG6.out.step h2); have HR7 := Lib.hid (h0.rf (G := owB A8 ++ (owB A2 ++ G)) (fun y hy => .inr (HG6.out.hi HZ6.out.hi y hy))); have HN7 := Lib.hid (And.intro h0.cap (And.intro h0.max h0.nil_)); clear h0 h1 h2)
              go_roundw
              case rel => exact ⟨i + 1, k2, m, 0, A8, A2, c8, c2, q3, gt, by omega, hk29, rfl, rfl, rfl, rfl, by go_num, HZ7, HG7, HP7⟩
              case measure => simp [intOf] <;> omega
            · have HNE := ne_more HF6.out.2.1 h0
              obtain ⟨hf7, rfl⟩ := HF6.out.1.more h0
              obtain ⟨l, hl⟩ : ∃ l, partF q3 = l := ⟨_, rfl⟩
              obtain ⟨q4, hq4⟩ : ∃ q4, q3.drop (lenF q3) = q4 := ⟨_, rfl⟩
              have hq5 : q4.length ≤ 512 := by rw [← hq4, List.length_drop]; have := HF6.out.2.1; omega
              rw [hl, hq4] at HNE hf7
              have HNE := Lib.hid HNE
              obtain ⟨ln, hln⟩ : ∃ ln, l.length = ln := ⟨_, rfl⟩
              have HLN := Lib.hid hln
              have HF7 := Lib.hid (show Fq lb k2 q4 (gt ++ [l]) 0 ∧ q4.length ≤ 512 ∧ (gt ++ [l]).length = m + 1 from ⟨hf7, hq5, by rw [List.length_append, HF6.out.2.2]; rfl⟩)
              have hm8 : m + 1 ≤ k2 := by have := HF7.out.1.count; rw [HF7.out.2.2] at this; exact this
              clear hf7 hl hq4 hq5 hln hb h0
              go_upto_region 26 with (go_at_call 29; (with_reducible refine (c_next HZ6.out (gc_q HF6.out.2.1) 1 ln l true 0 (tOne (cnQ q4)) HNE.out HLN.out).mono ?_); rintro e u7 ⟨A7, c7, rfl, h0, h1, h2⟩; have HZ7 := Lib.hid h1; have HG7 := Lib.hid (HG6.out.step h2); have HR7 := Lib.hid (h0.rf (G := owB A8 ++ (owB A2 ++ G)) (fun y hy => .inr (HG6.out.hi HZ6.out.hi y hy))); have HN7 := Lib.hid (And.intro h0.cap (And.intro h0.max h0.nil_)); clear h0 h1 h2)
              obtain ⟨ab, hab⟩ : ∃ ab, u7.heap.size = ab := ⟨_, rfl⟩
              obtain ⟨w6, hw6⟩ : ∃ w6, u7.alloc (.cells #[.slice A7 ln c7] 28) = w6 := ⟨_, rfl⟩
              have hb6 : Below u7.heap.size u7 w6 := by rw [← hw6]; exact (Below.refl _ _).alloc (Nat.le_refl _) _
              have z0 : w6.cell? ⟨ab, 0, none⟩ = some (.slice A7 ln c7) := by rw [← hw6, ← hab]; exact (Bk.new u7 28 #[.slice A7 ln c7]).cell 0
              have HZ8 := Lib.hid (HZ7.out.on hb6)
              have HG8 := Lib.hid (HG7.out.on hb6)
              have HR8 := Lib.hid (HR7.out.on hb6)
              clear hb6
              go_wp2_with ((try rw [hw6]); (try rw [hab]); at_builtin; refine wp_gx rfl (.tmp 114) (.tmp 116) rfl m rfl HF6.out.2.2 HG8.out HZ8.out.hi l A7 ln c7 HLN.out HN7.out.1 HN7.out.2.1 HN7.out.2.2 HR8.out ab 1 rfl z0 HZ8.out.l.size (by omega) (m + 1) rfl ?_; intro A5 c5 w7 hg hs; have HZ9 := Lib.hid (hs.out.z HZ8.out); have HG9 := hg; clear hs hg)
              go_roundw
              case rel => exact ⟨q4, m + 1, 0, A5, c5, gt ++ [l], rfl, rfl, HZ9, HG9, HF7⟩
              case measure => simp [lenV] <;> omega
      · have hi4 : decide ((i : Int) < (nc : Int)) = false := decide_eq_false (by omega)
        have hi6 : decide (i < nc) = false := decide_eq_false (by omega)
        obtain ⟨nn, hnn⟩ : ∃ nn, r = nn := ⟨_, rfl⟩
        have hqr : k + nn ≤ nb := by omega
        go_upto_region 16 with fail
        try rw [hnn]
        clear y1 hnn hi4 hi6
        obtain ⟨X, hX⟩ : ∃ X, (lb.drop k).take nn = X := ⟨_, rfl⟩
        have hxl : X.length = nn := by rw [← hX, List.length_take, List.length_drop, HL.out]; omega
        obtain ⟨kk, hkk⟩ : ∃ kk, min nn (512 - q.length) = kk := ⟨_, rfl⟩
        obtain ⟨Y, hY⟩ : ∃ Y, (lb.drop k).take kk = Y := ⟨_, rfl⟩
        have hyl : Y.length = kk := by rw [← hY, List.length_take, List.length_drop, HL.out]; omega
        have hfe := fe_q (X := X) HP.out.2.1
        rw [hxl, hkk, ← hX, List.take_take, Nat.min_comm (512 - q.length) nn, hkk, hY] at hfe
        rw [hX] at hfe
        have HFE := Lib.hid hfe
        clear hfe
        have HGQ := Lib.hid (gc_q HP.out.2.1)
        have hkn : kk ≤ nn := by omega
        obtain ⟨kn, hkn2⟩ : ∃ kn, k + nn = kn := ⟨_, rfl⟩
        obtain ⟨k2, hk2⟩ : ∃ k2, k + kk = k2 := ⟨_, rfl⟩
        have z1 := (iwrap ((k : Int) + (nn : Int)) kn (by omega) (by omega)).1
        have z2 := (iwrap ((k : Int) + (kk : Int)) k2 (by omega) (by omega)).1
        obtain ⟨TA, hTA⟩ : ∃ TA, tailA Ab cb k = TA := ⟨_, rfl⟩
        have HSM := Lib.hid (show ∀ v, (Instr.sliceAt 28 (.slice Ab nb cb) (some (.int .i64 (k : Int))) (some (.int .i64 (kn : Int))) none).run Try.prog v = .ok (.slice TA nn (cb - k)) v from fun v => by
          have h := slice_mid Ab nb cb k nn hqr hcn v
          rw [hTA, show (k : Int) + (nn : Int) = (kn : Int) by omega] at h
          exact h)
        have HSM2 := Lib.hid (show ∀ v, (Instr.sliceAt 28 (.slice Ab nb cb) (some (.int .i64 (k : Int))) (some (.int .i64 (k2 : Int))) none).run Try.prog v = .ok (.slice TA kk (cb - k)) v from fun v => by
          have h := slice_mid Ab nb cb k kk (by omega) hcn v
          rw [hTA, show (k : Int) + (kk : Int) = (k2 : Int) by omega] at h
          exact h)
        have HTN := Lib.hid (show TA = none → kk = 0 ∧ cb - k = 0 by rw [← hTA]; exact tail_nil HN.out (by omega))
        have HRX := Lib.hid (show ∀ v, Below W.heap.size W v → Rb v W.heap.size TA X ∧ Rb v W.heap.size TA Y from fun v hv => by
          have h := (HR.out.1.below hv (Nat.le_refl _)).tail k (by rw [HL.out]; exact hcn)
          rw [hTA] at h
          exact ⟨by rw [← hX]; exact h.front nn, by rw [← hY]; exact h.front kk⟩)
        have HXL := Lib.hid (And.intro hxl hyl)
        have HTK := Lib.hid (show lb.take k ++ Y = lb.take k2 by rw [← hY, ← hk2, List.take_add])
        have HF := Lib.hid (show Fq lb k2 (q ++ Y) got bad by rw [← hY, ← hk2]; exact HP.out.1.feed kk)
        have HQ5 := Lib.hid (show (q ++ Y).length ≤ 512 by rw [List.length_append, hyl]; have := HP.out.2.1; omega)
        obtain ⟨q2, hq2⟩ : ∃ q2, q ++ Y = q2 := ⟨_, rfl⟩
        rw [hq2] at HF HQ5 HFE
        have HK2 := Lib.hid hk2
        have HLK := Lib.hid (show (lb.take k).length = k by rw [List.length_take, HL.out]; omega)
        have x1 : ¬ ((kk : Int) < 0) := by omega
        have x2 : ¬ ((nn : Int) < (kk : Int)) := by omega
        have x3 : decide ((nn : Int) < (kk : Int)) = false := decide_eq_false x2
        have x4 : decide (nn < kk) = false := decide_eq_false (by omega)
        have x5 : decide ((kk : Int) < 0) = false := decide_eq_false x1
        have x6 : ¬ nn < kk := by omega
        have hk29 : k2 ≤ nb := by omega
        clear hX hxl hkk hY hyl hTA hq2 hkn2 hk2
        go_upto_region 17 with (first | ((with_reducible refine slice_here ?_); refine wpList_two rfl 28 (.tmp 69) (.tmp 70) (.tmp 73) rfl _ _ _ _ rfl rfl rfl (HSM.out _) ?_) | (go_at_call 28; (with_reducible refine (c_feed HZ.out HGQ.out 1 TA nn (cb - k) X HXL.out.1 (by omega) (by omega) ((HRX.out wr HZ.out.l).1.rf HZ.out.lo) kk (tOne (cnQ q2)) HFE.out).mono ?_); rintro e u4 ⟨rfl, h1, h2⟩; have HZ4 := Lib.hid h1; have HG4 := Lib.hid (HG.out.step h2); clear h1 h2))
        clear z1
        go_upto_region 20 with (first | ((with_reducible refine slice_here ?_); refine wpList_two rfl 28 (.tmp 84) (.tmp 85) (.tmp 88) rfl _ _ _ _ rfl rfl rfl (HSM2.out _) ?_) | (at_builtin; refine wp_gb rfl (.tmp 83) (.tmp 89) rfl k rfl HLK.out HG4.out HZ4.out.hi Y TA kk (cb - k) rfl HXL.out.2 HTN.out ((HRX.out u4 HZ4.out.l).2.more HZ4.out.l.size) HZ4.out.l.size (by omega) k2 HK2.out ?_; intro A2 c2 u5 hg hs; have HZ5 := Lib.hid (hs.out.z HZ4.out); have HG5 := Lib.hid (show Gwf W u5 G A9 c9 got A2 c2 (lb.take k2) by rw [← HTK.out]; exact hg.out); clear hg hs))
        go_wp2_with fail
        clear z2 x1 x2 x3 x4 x5 x6
        obtain ⟨mq, hmq⟩ : ∃ mq, m9 = mq := ⟨_, rfl⟩
        have HFM := Lib.hid (show got.length = mq from HP.out.2.2.trans hmq)
        try rw [hmq]
        clear hmq
        go_loopw [9, 12] (fun v9 v12 w9 => ∃ (q3 : List UInt8) (m bd : Nat) (A9 : Option Addr) (c9 : Nat) (got : List (List UInt8)), v9 = .slice A9 m c9 ∧ v12 = .int .i64 (bd : Int) ∧ Hid (Zc W w9 G tb (tOne (cnQ q3))) ∧ Hid (Gwf W w9 G A9 c9 got A2 c2 (lb.take k2)) ∧ Hid (Fq lb k2 q3 got bd ∧ q3.length ≤ 512 ∧ got.length = m)) (fun v9 _ _ => k2 - lenV v9)
        case atStart => exact ⟨q2, mq, bad, A9, c9, got, rfl, rfl, HZ5, HG5, Lib.hid ⟨HF.out, HQ5.out, HFM.out⟩⟩
        case round =>
          obtain ⟨q3, m, bd, A8, c8, gt, rfl, rfl, HZ6, HG6, HF6⟩ := hrel
          have hm9 : m ≤ k2 := by have := HF6.out.1.count; rw [HF6.out.2.2] at this; exact this
          have HXI := Lib.hid (And.intro HL.out HZ6.out.hi)
          cases hb : begB q3 with
          | false =>
            have HNE := Lib.hid (ne_bad HF6.out.2.1 hb)
            have HP7 := Lib.hid (show Pq lb k2 q3 gt 61 ∧ q3.length ≤ 512 ∧ gt.length = m from ⟨HF6.out.1.bad hb, HF6.out.2⟩)
            rcases (show bd = 0 ∨ bd = 61 by rcases HF6.out.1.w with e | e; exact .inl e; exact .inr e.1) with rfl | rfl
            · go_wp2_with (go_at_call 29; (with_reducible refine (c_next HZ6.out (gc_q HF6.out.2.1) 1 0 [] false 61 (tOne (cnQ q3)) HNE.out rfl).mono ?_); rintro e u7 ⟨A7, c7, rfl, h0, h1, h2⟩; have HZ7 := Lib.hid h1; have HG7 := Lib.hid (HG6.out.step h2); have HR7 := Lib.hid (h0.rf (G := owB A8 ++ (owB A2 ++ G)) (fun y hy => .inr (HG6.out.hi HZ6.out.hi y hy))); have HN7 := Lib.hid (And.intro h0.cap (And.intro h0.max h0.nil_)); clear h0 h1 h2)
              go_roundw
              case rel => exact ⟨i + 1, k2, m, 61, A8, A2, c8, c2, q3, gt, by omega, hk29, rfl, rfl, rfl, rfl, by go_num, HZ7, HG7, HP7⟩
              case measure => simp [intOf] <;> omega
            · go_wp2_with (go_at_call 29; (with_reducible refine (c_next HZ6.out (gc_q HF6.out.2.1) 1 0 [] false 61 (tOne (cnQ q3)) HNE.out rfl).mono ?_); rintro e u7 ⟨A7, c7, rfl, h0, h1, h2⟩; have HZ7 := Lib.hid h1; have HG7 := Lib.hid (HG6.out.step h2); have HR7 := Lib.hid (h0.rf (G := owB A8 ++ (owB A2 ++ G)) (fun y hy => .inr (HG6.out.hi HZ6.out.hi y hy))); have HN7 := Lib.hid (And.intro h0.cap (And.intro h0.max h0.nil_)); clear h0 h1 h2)
              go_roundw
              case rel => exact ⟨i + 1, k2, m, 61, A8, A2, c8, c2, q3, gt, by omega, hk29, rfl, rfl, rfl, rfl, by go_num, HZ7, HG7, HP7⟩
              case measure => simp [intOf] <;> omega
          | true =>
            by_cases h0 : lenF q3 = 0
            · have HNE := Lib.hid (ne_done HF6.out.2.1 hb h0)
              obtain ⟨hp7, rfl⟩ := HF6.out.1.done hb h0
              have HP7 := Lib.hid (show Pq lb k2 q3 gt 0 ∧ q3.length ≤ 512 ∧ gt.length = m from ⟨hp7, HF6.out.2⟩)
              clear hp7 h0 hb
              go_wp2_with (go_at_call 29; (with_reducible refine (c_next HZ6.out (gc_q HF6.out.2.1) 1 0 [] false 0 (tOne (cnQ q3)) HNE.out rfl).mono ?_); rintro e u7 ⟨A7, c7, rfl, h0, h1, h2⟩; have HZ7 := Lib.hid h1; have HG7 := Lib.hid (HG6.out.step h2); have HR7 := Lib.hid (h0.rf (G := owB A8 ++ (owB A2 ++ G)) (fun y hy => .inr (HG6.out.hi HZ6.out.hi y hy))); have HN7 := Lib.hid (And.intro h0.cap (And.intro h0.max h0.nil_)); clear h0 h1 h2)
              go_roundw
              case rel => exact ⟨i + 1, k2, m, 0, A8, A2, c8, c2, q3, gt, by omega, hk29, rfl, rfl, rfl, rfl, by go_num, HZ7, HG7, HP7⟩
              case measure => simp [intOf] <;> omega
            · have HNE := ne_more HF6.out.2.1 h0
              obtain ⟨hf7, rfl⟩ := HF6.out.1.more h0
              obtain ⟨l, hl⟩ : ∃ l, partF q3 = l := ⟨_, rfl⟩
              obtain ⟨q4, hq4⟩ : ∃ q4, q3.drop (lenF q3) = q4 := ⟨_, rfl⟩
              have hq5 : q4.length ≤ 512 := by rw [← hq4, List.length_drop]; have := HF6.out.2.1; omega
              rw [hl, hq4] at HNE hf7
              have HNE := Lib.hid HNE
              obtain ⟨ln, hln⟩ : ∃ ln, l.length = ln := ⟨_, rfl⟩
              have HLN := Lib.hid hln
              have HF7 := Lib.hid (show Fq lb k2 q4 (gt ++ [l]) 0 ∧ q4.length ≤ 512 ∧ (gt ++ [l]).length = m + 1 from ⟨hf7, hq5, by rw [List.length_append, HF6.out.2.2]; rfl⟩)
              have hm8 : m + 1 ≤ k2 := by have := HF7.out.1.count; rw [HF7.out.2.2] at this; exact this
              clear hf7 hl hq4 hq5 hln hb h0
              go_upto_region 26 with (go_at_call 29; (with_reducible refine (c_next HZ6.out (gc_q HF6.out.2.1) 1 ln l true 0 (tOne (cnQ q4)) HNE.out HLN.out).mono ?_); rintro e u7 ⟨A7, c7, rfl, h0, h1, h2⟩; have HZ7 := Lib.hid h1; have HG7 := Lib.hid (HG6.out.step h2); have HR7 := Lib.hid (h0.rf (G := owB A8 ++ (owB A2 ++ G)) (fun y hy => .inr (HG6.out.hi HZ6.out.hi y hy))); have HN7 := Lib.hid (And.intro h0.cap (And.intro h0.max h0.nil_)); clear h0 h1 h2)
              obtain ⟨ab, hab⟩ : ∃ ab, u7.heap.size = ab := ⟨_, rfl⟩
              obtain ⟨w6, hw6⟩ : ∃ w6, u7.alloc (.cells #[.slice A7 ln c7] 28) = w6 := ⟨_, rfl⟩
              have hb6 : Below u7.heap.size u7 w6 := by rw [← hw6]; exact (Below.refl _ _).alloc (Nat.le_refl _) _
              have z0 : w6.cell? ⟨ab, 0, none⟩ = some (.slice A7 ln c7) := by rw [← hw6, ← hab]; exact (Bk.new u7 28 #[.slice A7 ln c7]).cell 0
              have HZ8 := Lib.hid (HZ7.out.on hb6)
              have HG8 := Lib.hid (HG7.out.on hb6)
              have HR8 := Lib.hid (HR7.out.on hb6)
              clear hb6
              go_wp2_with ((try rw [hw6]); (try rw [hab]); at_builtin; refine wp_gx rfl (.tmp 114) (.tmp 116) rfl m rfl HF6.out.2.2 HG8.out HZ8.out.hi l A7 ln c7 HLN.out HN7.out.1 HN7.out.2.1 HN7.out.2.2 HR8.out ab 1 rfl z0 HZ8.out.l.size (by omega) (m + 1) rfl ?_; intro A5 c5 w7 hg hs; have HZ9 := Lib.hid (hs.out.z HZ8.out); have HG9 := hg; clear hs hg)
              go_roundw
              case rel => exact ⟨q4, m + 1, 0, A5, c5, gt ++ [l], rfl, rfl, HZ9, HG9, HF7⟩
              case measure => simp [lenV] <;> omega
    · have hi2 : ¬ (i : Int) ≤ (nc : Int) := by omega
      have hi5 : decide (i ≤ nc) = false := decide_eq_false hi1
      have hln : (lb.take k).length = k := by rw [List.length_take, HL.out]; omega
      have HCUT := rcut_ok A0 k c0 (lb.take k) wr hln (by have := HG.out.k0.2.1; omega) HG.out.k0.2.2.1 (by omega) HG.out.b.rb
      rw [← HP.out.1.c, HP.out.2.2, HP.out.1.r, ← HP.out.1.e] at HCUT
      have HCUT := Lib.hid HCUT
      have hxx : ((bad : Int) == (bad : Int)) = true := beq_self_eq_true _
      have HS := Lib.hid (fun A7 c7 B wz (h1 : m9 ≤ c7) h2 (h : Rl wz B A7 got) (h' : Rl wz wr.heap.size A9 got) => frsame_ok A9 m9 c9 got A7 m9 c7 got wr.heap.size B wz HP.out.2.2 HP.out.2.2 (by rw [← HP.out.2.2]; exact HG.out.k9.2.1) HG.out.k9.2.2.1 h1 h2 h' h)
      rw [decide_eq_true (rfl : got = got)] at HS
      clear hln hi1
      go_upto_region 28 with (go_at_call 30; (with_reducible refine (HCUT.out).mono ?_); rintro e wy ⟨A7, c7, rfl, ho, hb⟩; have HO7 := Lib.hid ho; have HY7 := Lib.hid hb; clear ho hb)
      have HC7 := Lib.hid (show m9 ≤ c7 ∧ c7 ≤ 9223372036854775807 from by have := HO7.out.cap; rw [HP.out.2.2] at this; exact this)
      go_wp2_with (go_at_call 31; refine (HS.out A7 c7 0 _ HC7.out.1 HC7.out.2 HO7.out.rl (HG.out.fin.below HY7.out)).mono ?_; rintro e wz ⟨rfl, hb⟩; have HBZ := Lib.hid ((HZ.out.l.trans (HY7.out.mono HZ.out.l.size)).trans (hb.mono (Nat.le_trans HZ.out.l.size HY7.out.size))); clear hb)
      go_ret
      exact ⟨rfl, HBZ.out⟩
end Go.Proofs.Ytndamiocmdnenaa
