/- SkL, SkG, WEq: texts of this seat, one behind the other. -/
import Derived.Test.YtekobdmlgbffnaaGreatDoorSk3
import Derived.Test.YtekobdmlgbffnaaGreatDoorG17
import Derived.Test.YtekobdmlgbffnaaGreatDoorG4
/- Hear: what it leaves, in one contract; a hand-shake that is kept together with its vault and the blocks around it. -/
namespace Go.Proofs.YtekobdmlgbffnaaGreatDoor
set_option linter.unusedVariables false
set_option maxRecDepth 100000
set_option linter.unusedSimpArgs false
open Go.RowKit

theorem shear_ok (v mb : Nat) (c : List Tn) (g : Rev) (s : Sk) (sb : Nat) (x : Mg) (now : Int) (nn : ByteArray) (u : World) (hv : Va u v mb c g) (hG : Gl u) (hb : Bk u sb 114 (shc v s)) (hs : skB s) (ha : x.a.size ≤ 1099511627776) (hz : x.b.size ≤ 140737488355328) :
    Calls Tryz.prog 27 #[.pointer (some ⟨sb, 0, none⟩), .agg x.cells, .int .i64 now, .string nn] u fun e u' => e = .returned (.tuple #[.agg (hsM (ckF c g) s x now nn).cells, .bool (!ovS s)]) ∧ Bk u' sb 114 (shc v (hsS (ckF c g) s x now nn)) ∧ Ke [sb] u u' := by
  obtain ⟨xk, xa, xb, xn, xm⟩ := x
  dsimp only at ha hz
  cases s with
  | new =>
    by_cases hk : xk = 1
    · subst hk
      exact (hear_hello_yes sb _ 1 xn xm now xa xb nn u _ _ _ _ _ _ _ hb (fun u' hu => hello_yes v xn xm now xa xb nn u' (by omega) hz)).mono fun e u' hh => hh
    · have e1 : hsM (ckF c g) .new ⟨xk, xa, xb, xn, xm⟩ now nn = ⟨5, eS, eS, 1, 0⟩ := if_neg hk
      have e2 : hsS (ckF c g) .new ⟨xk, xa, xb, xn, xm⟩ now nn = .no := if_neg hk
      rw [e1, e2]
      exact (hear_hello_no sb _ xk xn xm now xa xb nn u _ _ _ _ _ _ hb (fun u' hu => hello_no v xk xn xm now xa xb nn u' hk)).mono fun e u' hh => hh
  | ask a b n =>
    have hn : n.size ≤ 140737488355328 := Nat.le_trans hs (by decide)
    by_cases hk : xk = 3
    · subst hk
      by_cases h0 : ckF c g a b n xa now = 0
      · have e1 : hsM (ckF c g) (.ask a b n) ⟨3, xa, xb, xn, xm⟩ now nn = ⟨4, eS, eS, 0, 0⟩ := if_pos h0
        have e2 : hsS (ckF c g) (.ask a b n) ⟨3, xa, xb, xn, xm⟩ now nn = .known a := if_pos h0
        rw [e1, e2]
        exact (hear_proof sb _ 3 xn xm now xa xb nn u _ _ _ _ _ _ hb (fun u' hu => proof_yes v mb c g a b n xn xm now xa xb nn u' (hv.on hu) (hG.below hu hG.size) hn ha h0)).mono fun e u' hh => hh
      · have e1 : hsM (ckF c g) (.ask a b n) ⟨3, xa, xb, xn, xm⟩ now nn = ⟨5, eS, eS, ckF c g a b n xa now, 0⟩ := if_neg h0
        have e2 : hsS (ckF c g) (.ask a b n) ⟨3, xa, xb, xn, xm⟩ now nn = .no := if_neg h0
        rw [e1, e2]
        exact (hear_proof sb _ 3 xn xm now xa xb nn u _ _ _ _ _ _ hb (fun u' hu => proof_bad v mb c g a b n xn xm now xa xb nn u' (hv.on hu) (hG.below hu hG.size) hn ha _ rfl h0)).mono fun e u' hh => hh
    · have e1 : hsM (ckF c g) (.ask a b n) ⟨xk, xa, xb, xn, xm⟩ now nn = ⟨5, eS, eS, 1, 0⟩ := if_neg hk
      have e2 : hsS (ckF c g) (.ask a b n) ⟨xk, xa, xb, xn, xm⟩ now nn = .no := if_neg hk
      rw [e1, e2]
      exact (hear_proof sb _ xk xn xm now xa xb nn u _ _ _ _ _ _ hb (fun u' hu => proof_no v a b n xk xn xm now xa xb nn u' hk)).mono fun e u' hh => hh
  | known a => exact (hear_over sb xk xn xm now xa xb nn a u hb).mono fun e u' hh => ⟨hh.1, hb.below hh.2 hb.lt, (Ke.of hh.2).nil⟩
  | no => exact (hear_over sb xk xn xm now xa xb nn _ u hb).mono fun e u' hh => ⟨hh.1, hb.below hh.2 hb.lt, (Ke.of hh.2).nil⟩

/-- A law's vault, as it was made at ub. -/
structure Sb (w ub : World) (v mb : Nat) (c : List Tn) : Prop where
  hv : Lv w v mb c [] [] ub
  cf : ∃ cg : Cg, cfgB cg = true ∧ c = cg.tens
/-- The vault, the hand-shake at sb, and the blocks of L. -/
structure Ss (ub : World) (mb : Nat) (g : Rev) (sb v : Nat) (s : Sk) (L : List (Nat × TypeId × Array Value)) (u : World) : Prop where
  k : Ke [mb] ub u
  m : Mv u mb g
  b : Bk u sb 114 (shc v s)
  lo : ub.heap.size ≤ sb
  sk : skB s
  kb : ∀ b ∈ L, Bk u b.1 b.2.1 b.2.2
  ne : ∀ b ∈ L, b.1 ≠ sb
section
variable {w ub u u' : World} {v mb sb : Nat} {c : List Tn} {g : Rev} {s : Sk} {L L' : List (Nat × TypeId × Array Value)}
theorem Ss.on (h : Ss ub mb g sb v s L u) (hb : Below u.heap.size u u') : Ss ub mb g sb v s L u' :=
  ⟨h.k.trans (Ke.of hb).nil, h.m.ke (Ke.of hb) (by simp), h.b.below hb h.b.lt, h.lo, h.sk, fun b hL => (h.kb b hL).below hb (h.kb b hL).lt, h.ne⟩
theorem Ss.new (h : Ss ub mb g sb v s L u) (t : TypeId) (cs : Array Value) : Ss ub mb g sb v s ((u.heap.size, t, cs) :: L) (u.alloc (.cells cs t)) := by
  have hb := (Below.refl u.heap.size u).alloc (Nat.le_refl _) (.cells cs t)
  have h2 := h.on hb
  refine ⟨h2.k, h2.m, h2.b, h2.lo, h2.sk, fun b hL => ?_, fun b hL => ?_⟩
  · rcases List.mem_cons.1 hL with rfl | hL
    · exact Bk.new u t cs
    · exact h2.kb b hL
  · rcases List.mem_cons.1 hL with rfl | hL
    · have := h.b.lt; show u.heap.size ≠ sb; omega
    · exact h.ne b hL
theorem Ss.less (h : Ss ub mb g sb v s L u) (hL : ∀ b ∈ L', b ∈ L) : Ss ub mb g sb v s L' u := ⟨h.k, h.m, h.b, h.lo, h.sk, fun b hb => h.kb b (hL b hb), fun b hb => h.ne b (hL b hb)⟩
theorem Ss.head {b : Nat} {t : TypeId} {cs : Array Value} (h : Ss ub mb g sb v s ((b, t, cs) :: L) u) : Bk u b t cs := h.kb _ (List.mem_cons_self ..)
theorem Ss.bk {b : Nat} {t : TypeId} {cs : Array Value} (h : Ss ub mb g sb v s L u) (hL : (b, t, cs) ∈ L) : Bk u b t cs := h.kb _ hL
theorem Sb.va (b : Sb w ub v mb c) (h : Ss ub mb g sb v s L u) : Va u v mb c g := b.hv.va.imp fun _ hz => hz.own h.k h.m
theorem Sb.low (b : Sb w ub v mb c) (h : Ss ub mb g sb v s L u) : Below w.heap.size w u := b.hv.l.trans (h.k.below b.hv.l.size (fun y hy => by obtain rfl := List.mem_singleton.1 hy; exact b.hv.lv))
/-- A block of L is written. -/
theorem Ss.turn {gb : Nat} {t : TypeId} {cs cs' : Array Value} (h : Ss ub mb g sb v s ((gb, t, cs) :: L) u) (h' : Bk u' gb t cs') (k : Ke [gb] u u') (hlo : ub.heap.size ≤ gb) (hL : ∀ b ∈ L, b.1 ≠ gb) : Ss ub mb g sb v s ((gb, t, cs') :: L) u' := by
  have hgm : gb ≠ mb := fun e => by
    obtain ⟨es, ck, he⟩ := h.m.block
    have h1 : u.heap[gb]? = some (.cells cs t) := h.head
    rw [e, he] at h1
    cases h1
  refine ⟨⟨k.os.trans h.k.os, k.tape.trans h.k.tape, k.output.trans h.k.output, Nat.le_trans h.k.size k.size, fun i hi hn => (k.block i (Nat.lt_of_lt_of_le hi h.k.size) (by simp only [List.mem_singleton]; omega)).trans (h.k.block i hi hn)⟩, h.m.ke k (by simp only [List.mem_singleton]; exact fun e => hgm e.symm), h.b.ke k (by simp only [List.mem_singleton]; exact fun e => h.ne _ (List.mem_cons_self ..) e.symm), h.lo, h.sk, fun b hb => ?_, fun b hb => ?_⟩
  rcases List.mem_cons.1 hb with rfl | hb
  · exact h'
  · exact (h.kb b (List.mem_cons_of_mem _ hb)).ke k (by simp only [List.mem_singleton]; exact hL b hb)
  · rcases List.mem_cons.1 hb with rfl | hb
    · exact h.ne (gb, t, cs) (List.mem_cons_self ..)
    · exact h.ne b (List.mem_cons_of_mem _ hb)
/-- The other hand-shake, that lies among the blocks, in its place. -/
theorem Ss.swap {tb : Nat} {t : Sk} (h : Ss ub mb g sb v s ((tb, 114, shc v t) :: L) u) (hlo : ub.heap.size ≤ tb) (ht : skB t) (hL : ∀ b ∈ L, b.1 ≠ tb) : Ss ub mb g tb v t ((sb, 114, shc v s) :: L) u :=
  ⟨h.k, h.m, h.head, hlo, ht, fun b hb => by
    rcases List.mem_cons.1 hb with rfl | hb
    · exact h.b
    · exact h.kb b (List.mem_cons_of_mem _ hb), fun b hb => by
    rcases List.mem_cons.1 hb with rfl | hb
    · exact fun e => h.ne _ (List.mem_cons_self ..) e.symm
    · exact hL b hb⟩
theorem ss_hear (b : Sb w ub v mb c) (hG : Gl w) (h : Ss ub mb g sb v s L u) (x : Mg) (now : Int) (nn : ByteArray) (ha : x.a.size ≤ 1099511627776) (hz : x.b.size ≤ 140737488355328) :
    Calls Tryz.prog 27 #[.pointer (some ⟨sb, 0, none⟩), .agg x.cells, .int .i64 now, .string nn] u fun e u' => e = .returned (.tuple #[.agg (hsM (ckF c g) s x now nn).cells, .bool (!ovS s)]) ∧ Ss ub mb g sb v (hsS (ckF c g) s x now nn) L u' :=
  (shear_ok v mb c g s sb x now nn u (b.va h) (hG.below (b.low h) hG.size) h.b h.sk ha hz).mono fun e u' hh => by
    obtain ⟨h1, h2, k⟩ := hh
    have hsm : sb ≠ mb := fun e => by
      obtain ⟨es, ck, he⟩ := h.m.block
      have h1 : u.heap[sb]? = some (.cells (shc v s) 114) := h.b
      rw [e, he] at h1
      cases h1
    have hlo := h.lo
    refine ⟨h1, ⟨k.os.trans h.k.os, k.tape.trans h.k.tape, k.output.trans h.k.output, Nat.le_trans h.k.size k.size, fun i hi hn => (k.block i (Nat.lt_of_lt_of_le hi h.k.size) (by simp only [List.mem_singleton]; omega)).trans (h.k.block i hi hn)⟩, h.m.ke k (by simp only [List.mem_singleton]; exact fun e => hsm e.symm), h2, h.lo, ?_, fun y hy => (h.kb y hy).ke k (by simp only [List.mem_singleton]; exact h.ne y hy), h.ne⟩
    obtain ⟨cg, hc, rfl⟩ := b.cf
    exact hs_b hc g s x now nn h.sk
theorem ss_over (h : Ss ub mb g sb v s L u) : Calls Tryz.prog 31 #[.pointer (some ⟨sb, 0, none⟩)] u fun e u' => e = .returned (.bool (ovS s)) ∧ Ss ub mb g sb v s L u' :=
  (sover_ok sb v s u h.b).mono fun e u' hh => ⟨hh.1, h.on hh.2⟩
theorem ss_who (h : Ss ub mb g sb v s L u) : Calls Tryz.prog 29 #[.pointer (some ⟨sb, 0, none⟩)] u fun e u' => e = .returned (.tuple #[.string (whS s), .bool (knS s)]) ∧ Ss ub mb g sb v s L u' :=
  (swho_ok sb v s u h.b h.sk).mono fun e u' hh => ⟨hh.1, h.on hh.2⟩
theorem ss_want (b : Sb w ub v mb c) (hG : Gl w) (h : Ss ub mb g sb v s L u) (p q n : ByteArray) (hn : n.size ≤ 140737488355328) : Calls Tryz.prog 58 #[.pointer (some ⟨v, 0, none⟩), .string p, .string q, .string n] u fun e u' => e = .returned (.string ⟨(wnB (tkN c p q) p q n).toArray⟩) ∧ Ss ub mb g sb v s L u' :=
  (vwant_ok u v mb c g (b.va h) (hG.below (b.low h) hG.size) p q n hn).mono fun e u' hh => ⟨hh.1, h.on hh.2⟩
/-- shake.New, behind a vault that was just made. -/
theorem ss_new (b : Sb w ub v mb c) (L : List (Nat × TypeId × Array Value)) (hk : Ke [mb] ub u) (hm : Mv u mb g) (hL : ∀ y ∈ L, Bk u y.1 y.2.1 y.2.2) : Calls Tryz.prog 23 #[.pointer (some ⟨v, 0, none⟩)] u fun e u' => e = .returned (.pointer (some ⟨u.heap.size, 0, none⟩)) ∧ Ss ub mb g u.heap.size v .new L u' :=
  (snew_ok v u).mono fun e u' hh => ⟨hh.1, ⟨hk.trans (Ke.of hh.2.2).nil, hm.ke (Ke.of hh.2.2) (by simp), hh.2.1, hk.size, trivial, fun y hy => (hL y hy).below hh.2.2 (hL y hy).lt, fun y hy => by have := (hL y hy).lt; omega⟩⟩
end
end Go.Proofs.YtekobdmlgbffnaaGreatDoor

/- Great of wire's laws, great of shake's laws: their contracts. -/
namespace Go.Proofs.YtekobdmlgbffnaaGreatDoor
set_option linter.unusedVariables false
set_option maxRecDepth 100000
set_option linter.unusedSimpArgs false
open Go.RowKit

set_option maxHeartbeats 400000 in
theorem wgreat_ok (x : Mg) (w : World) (ha : x.a.size ≤ 140737488355328) (hb : x.b.size ≤ 140737488355328) : Calls Tryz.prog 59 #[.agg x.cells] w fun e w' => e = .returned (.bool (decide (9000 < x.a.size + x.b.size))) ∧ Below w.heap.size w w' := by
  obtain ⟨k, a, b, n, m⟩ := x
  have hb1 := Bk.new w 55 (Mg.cells ⟨k, a, b, n, m⟩)
  have hB : Below w.heap.size w (w.alloc (.cells #[.int .i64 k, .string a, .string b, .int .i64 n, .int .i64 m] 55)) := by go_grown
  have c1 : (w.alloc (.cells #[.int .i64 k, .string a, .string b, .int .i64 n, .int .i64 m] 55)).cell? ⟨w.heap.size, 1, none⟩ = some (.string a) := by rw [hb1.cell]; rfl
  have c2 : (w.alloc (.cells #[.int .i64 k, .string a, .string b, .int .i64 n, .int .i64 m] 55)).cell? ⟨w.heap.size, 2, none⟩ = some (.string b) := by rw [hb1.cell]; rfl
  clear hb1
  simp only at ha hb ⊢
  have e9 : decide ((9000 : Int) < (a.size : Int) + (b.size : Int)) = decide (9000 < a.size + b.size) := decide_eq_decide.2 (by omega)
  have HE9 := Lib.hid e9
  clear e9
  go_enter Tryz.func59, Tryz.ntmps59
  go_wp2
  go_ret
  exact ⟨by rw [← HE9.out]; rfl, hB⟩

def So.few (x : So) : Prop := x.m.a.size + x.m.b.size ≤ 9000 ∧ x.nn.size ≤ 2000
structure SkB (l : List So) : Prop where
  n : l.length ≤ 40
  x : ∀ x ∈ l, x.few
/-- What great leaves. -/
def SgP (l : List So) (w : World) (e : Ending) (w' : World) : Prop := ∃ g : Bool, e = .returned (.bool g) ∧ (g = false → SkB l) ∧ Below w.heap.size w w'
set_option maxRecDepth 100000 in
set_option maxHeartbeats 4000000 in
theorem sgreat_ok (A : Option Addr) (l : List So) (c : Nat) (w : World) (h : InSk w A l c) :
    Calls Tryz.prog 20 #[.slice A l.length c] w (SgP l w) := by
  have HI := Lib.hid h
  have hnb := h.n
  obtain ⟨n, hn⟩ : ∃ n, l.length = n := ⟨_, rfl⟩
  have HN := Lib.hid hn
  rw [hn] at hnb
  rw [hn]
  clear h hn
  go_enter Tryz.func20, Tryz.ntmps20
  go_wp2
  go_loopw [3] (fun v3 wr => ∃ (i : Nat), i ≤ n ∧ i ≤ 60 ∧ v3 = .int .i64 (i : Int) ∧ Hid (∀ x ∈ l.take i, x.few) ∧ Hid (Below w.heap.size w wr)) (fun v3 _ => n - (intOf v3).toNat)
  case atStart => exact ⟨0, by omega, by omega, rfl, Lib.hid (fun x hx => by simp at hx), Lib.hid (Below.refl _ _)⟩
  case round =>
    obtain ⟨i, hi, hi60, rfl, HX, HB⟩ := hrel
    by_cases hi1 : i < n
    · have hi2 : (i : Int) < (n : Int) := by omega
      by_cases hj1 : i < 60
      · have hj2 : (i : Int) < 60 := by omega
        obtain ⟨b, o, x, rfl, hx, hsm, hc⟩ := HI.out.at8 i (by rw [HN.out]; exact hi1)
        have HXI := Lib.hid hx
        obtain ⟨z1, z2, z3⟩ := hsm
        obtain ⟨xw, ⟨xk, xa, xb, xn, xm⟩, xo, xs⟩ := x
        dsimp only at z1 z2 z3 hc
        have HC := Lib.hid hc
        obtain ⟨c0, c1, c2, c3, c4, c5, c6, c7⟩ := hc wr HB.out
        have HW := Lib.hid (fun u => wgreat_ok ⟨xk, xa, xb, xn, xm⟩ u z1 z2)
        dsimp only at HW
        have HZ := Lib.hid z3
        obtain ⟨big, hbig⟩ : ∃ big, decide (9000 < xa.size + xb.size) = big := ⟨_, rfl⟩
        simp only [hbig] at HW
        have HBG := Lib.hid hbig
        clear hc hx hbig z1 z2 z3
        cases big with
        | true =>
          go_wp2_with (go_at_call 59; (with_reducible refine (HW.out _).mono ?_); rintro e u5 ⟨rfl, hb⟩; have HB5 := Lib.hid (HB.out.trans (hb.mono HB.out.size)); clear hb)
          go_ret
          exact ⟨true, rfl, (fun h => by cases h), HB5.out⟩
        | false =>
          by_cases hs : xs.size ≤ 2000
          · have hs2 : decide ((2000 : Int) < (xs.size : Int)) = false := decide_eq_false (by omega)
            go_wp2_with (go_at_call 59; (with_reducible refine (HW.out _).mono ?_); rintro e u5 ⟨rfl, hb⟩; have HB5 := Lib.hid (HB.out.trans (hb.mono HB.out.size)); clear hb; clear c0 c1 c2 c3 c4 c5 c6 c7; obtain ⟨c0, c1, c2, c3, c4, c5, c6, c7⟩ := HC.out _ HB5.out)
            go_roundw
            case rel =>
              refine ⟨i + 1, by omega, by omega, by go_num, Lib.hid (fun y hy => ?_), HB5⟩
              rw [List.take_add_one, HXI.out, List.mem_append] at hy
              rcases hy with hy | hy
              · exact HX.out y hy
              · simp at hy
                rw [hy]
                have h1 := HBG.out
                rw [decide_eq_false_iff_not] at h1
                exact ⟨by show xa.size + xb.size ≤ 9000; omega, hs⟩
            case measure => simp [intOf]; omega
          · have hs2 : decide ((2000 : Int) < (xs.size : Int)) = true := decide_eq_true (by omega)
            go_wp2_with (go_at_call 59; (with_reducible refine (HW.out _).mono ?_); rintro e u5 ⟨rfl, hb⟩; have HB5 := Lib.hid (HB.out.trans (hb.mono HB.out.size)); clear hb; clear c0 c1 c2 c3 c4 c5 c6 c7; obtain ⟨c0, c1, c2, c3, c4, c5, c6, c7⟩ := HC.out _ HB5.out)
            go_ret
            exact ⟨true, rfl, (fun h => by cases h), HB5.out⟩
      · have hj2 : ¬ (i : Int) < 60 := by omega
        have hn1 : (40 : Int) < (n : Int) := by omega
        go_wp2
        go_ret
        exact ⟨true, rfl, (fun h => by cases h), HB.out⟩
    · have hi2 : ¬ (i : Int) < (n : Int) := by omega
      by_cases hn1 : (40 : Int) < (n : Int)
      · go_wp2
        go_ret
        exact ⟨true, rfl, (fun h => by cases h), HB.out⟩
      · go_wp2
        go_ret
        exact ⟨false, rfl, (fun _ => ⟨by rw [HN.out]; omega, fun x hx => HX.out x (by rw [List.take_of_length_le (by rw [HN.out]; omega)]; exact hx)⟩), HB.out⟩
end Go.Proofs.YtekobdmlgbffnaaGreatDoor

/- Messages that are held against one another. -/
namespace Go.Proofs.YtekobdmlgbffnaaGreatDoor
set_option linter.unusedVariables false
set_option maxRecDepth 100000
set_option linter.unusedSimpArgs false
open Go.RowKit

def eqM (x y : Mg) : Bool := (x.k == y.k) && (x.a.toList == y.a.toList) && (x.b.toList == y.b.toList) && (x.n == y.n) && (x.m == y.m)
theorem bytes_eq {a b : ByteArray} (h : a.toList = b.toList) : a = b := by
  rw [ByteArray.toList_eq, ByteArray.toList_eq] at h
  rw [← bs_of a, ← bs_of b, h]
theorem eqM_iff (x y : Mg) : eqM x y = true ↔ x = y := by
  unfold eqM
  simp only [Bool.and_eq_true, beq_iff_eq]
  constructor
  · rintro ⟨⟨⟨⟨h1, h2⟩, h3⟩, h4⟩, h5⟩
    cases x; cases y
    simp only at h1 h2 h3 h4 h5
    rw [h1, bytes_eq h2, bytes_eq h3, h4, h5]
  · rintro rfl
    exact ⟨⟨⟨⟨rfl, rfl⟩, rfl⟩, rfl⟩, rfl⟩
theorem eqM_same (x : Mg) : eqM x x = true := (eqM_iff x x).2 rfl

set_option maxRecDepth 100000 in
set_option maxHeartbeats 2000000 in
theorem eqm_run (x y : Mg) (p q : Operand) (w : World) : ((do eqGuard .eql 55 p q (.agg x.cells) (.agg y.cells); binOp .eql 55 (.agg x.cells) (.agg y.cells)) : Sem Value).run Tryz.prog w = .ok (.bool (eqM x y)) w := by
  obtain ⟨k, a, b, n, m⟩ := x
  obtain ⟨k', a', b', n', m'⟩ := y
  unfold eqM
  go_simp
  repeat' split
  all_goals simp_all

set_option maxRecDepth 100000 in
set_option maxHeartbeats 2000000 in
theorem nem_run (x y : Mg) (p q : Operand) (w : World) : ((do eqGuard .neq 55 p q (.agg x.cells) (.agg y.cells); binOp .neq 55 (.agg x.cells) (.agg y.cells)) : Sem Value).run Tryz.prog w = .ok (.bool (!eqM x y)) w := by
  obtain ⟨k, a, b, n, m⟩ := x
  obtain ⟨k', a', b', n', m'⟩ := y
  unfold eqM
  go_simp
  repeat' split
  all_goals simp_all

theorem wpList_eqm {ops : Array Oper} {Q : Exit → Act → World → Prop} {a : Act} {w : World} {rest : List Oper} {o : Oper} (hw : Region.wanted o (yielded ops a.tmps) = true) (p q : Operand) (d : TypeId) (ho : o.op = .binOp .eql 55 p q d) (x y : Mg) (hx : a.eval p = .agg x.cells) (hy : a.eval q = .agg y.cells)
    (h : wpList Tryz.prog ops Q rest (a.put o.dst (.bool (eqM x y))) w) : wpList Tryz.prog ops Q (o :: rest) a w :=
  wpList_wanted hw fun K hK => by
    have h1 := eqm_run x y p q w
    unfold Oper.wp execOp
    simp only [ho, hx, hy]
    rw [Sem.run_bind, h1]
    exact hK _ _ h
theorem wpList_nem {ops : Array Oper} {Q : Exit → Act → World → Prop} {a : Act} {w : World} {rest : List Oper} {o : Oper} (hw : Region.wanted o (yielded ops a.tmps) = true) (p q : Operand) (d : TypeId) (ho : o.op = .binOp .neq 55 p q d) (x y : Mg) (hx : a.eval p = .agg x.cells) (hy : a.eval q = .agg y.cells)
    (h : wpList Tryz.prog ops Q rest (a.put o.dst (.bool (!eqM x y))) w) : wpList Tryz.prog ops Q (o :: rest) a w :=
  wpList_wanted hw fun K hK => by
    have h1 := nem_run x y p q w
    unfold Oper.wp execOp
    simp only [ho, hx, hy]
    rw [Sem.run_bind, h1]
    exact hK _ _ h
end Go.Proofs.YtekobdmlgbffnaaGreatDoor
