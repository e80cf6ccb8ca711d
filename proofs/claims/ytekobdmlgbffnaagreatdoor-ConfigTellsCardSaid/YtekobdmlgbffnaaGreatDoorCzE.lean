/- The document's own Parse: its contract. (Written by gen_cze.py.) -/
import Derived.Test.YtekobdmlgbffnaaGreatDoorG13
import Derived.Test.YtekobdmlgbffnaaGreatDoorRRight
import Derived.Test.YtekobdmlgbffnaaGreatDoorCgL4
import Derived.Test.YtekobdmlgbffnaaGreatDoorG2
import Derived.Test.YtekobdmlgbffnaaGreatDoorG4
namespace Go.Proofs.YtekobdmlgbffnaaGreatDoor
set_option linter.unusedVariables false
set_option maxRecDepth 100000
set_option linter.unusedSimpArgs false
open Go.RowKit

theorem gen_hE {P : Program} {md : Region.Mode} {ops : Array Oper} {Q : Exit → Act → World → Prop} {S' : World → Prop} {fuel : Nat} {listed : Array Bool} {a : Act} {w : World} (S : World → Prop) (hS : S w) (h : ∀ u, S u → wpAnyH P md ops Q S' fuel listed a u) : wpAnyH P md ops Q S' fuel listed a w := h w hS
theorem gen_qE {Q : Exit → Act → World → Prop} {e : Exit} {a : Act} {w : World} (S : World → Prop) (hS : S w) (h : ∀ u, S u → Q e a u) : Q e a w := h w hS
/-! ### What a store into a configuration's own cells leaves -/
def goodV : Value → Bool
  | .string _ => false
  | .int .u32 _ => false
  | _ => true
def Nq (cs : Array Value) : Prop := ∀ v ∈ cs, goodV v = true
theorem Nq.set {cs : Array Value} (h : Nq cs) (j : Nat) {v : Value} (hv : goodV v = true) : Nq (cs.setIfInBounds j v) := fun x hx => by
  rcases Array.mem_or_eq_of_mem_setIfInBounds hx with h1 | h1
  · exact h x h1
  · rw [h1]; exact hv
theorem Rw.farN {β : Type} {k : Nat} {f : β → Array Value} {u : World} {A : Option Addr} {l : List β} {nb : Nat} {t : TypeId} {cs : Array Value} (h : Rw k f u A l) (hk : 0 < k) (hf : ∀ x, ∃ v, (f x)[0]? = some v ∧ goodV v = false) (hb : Bk u nb t cs) (hn : Nq cs) (j : Nat) (z : Value) : Rw k f (u.setCell ⟨nb, j, none⟩ z) A l := by
  by_cases h0 : l = []
  · exact .inl h0
  · rcases h with h | ⟨b, o, e, hlt, hc⟩
    · exact absurd h h0
    · have hne : b ≠ nb := by
        intro e1
        subst e1
        obtain ⟨v, hv, hg⟩ := hf (l[0]'(List.length_pos_iff.2 h0))
        have h1 := hc 0 (List.length_pos_iff.2 h0) 0 hk
        rw [hv, hb.cell] at h1
        have := hn v (Array.mem_of_getElem? h1)
        rw [hg] at this
        cases this
      refine .inr ⟨b, o, e, by simpa [World.setCell] using hlt, fun i hi j' hj' => ?_⟩
      rw [← hc i hi j' hj']
      exact World.cell?_of_block (w := u) (a := ⟨b, o + i * k + j', none⟩) (heap_setCell_other u ⟨nb, j, none⟩ b z hne)
theorem RC.farN {u : World} {x : Cv} {nb : Nat} {t : TypeId} {cs : Array Value} (h : RC u x) (hb : Bk u nb t cs) (hn : Nq cs) (j : Nat) (z : Value) : RC (u.setCell ⟨nb, j, none⟩ z) x :=
  ⟨⟨h.r.r.farN (by decide) (fun x => ⟨_, rfl, rfl⟩) hb hn j z, fun y hy => ⟨(h.r.each y hy).n.farN (by decide) (fun x => ⟨_, rfl, rfl⟩) hb hn j z, (h.r.each y hy).k.farN (by decide) (fun x => ⟨_, rfl, rfl⟩) hb hn j z, (h.r.each y hy).fn, (h.r.each y hy).fk, (h.r.each y hy).lt, (h.r.each y hy).sz, (h.r.each y hy).szk⟩⟩, h.f⟩
theorem nq_ints {a0 a1 a2 a3 : Int} {A : Option Addr} {m c : Nat} : Nq #[.int .i64 a0, .int .i64 a1, .int .i64 a2, .int .i64 a3, .slice A m c] := fun v hv => by
  simp at hv
  rcases hv with rfl | rfl | rfl | rfl | rfl <;> rfl
/-- The cells of a configuration laid into a block of such cells, one by one. -/
def put5 (u : World) (nb : Nat) (d0 d1 d2 d3 : Int) (S : Value) : World := ((((u.setCell ⟨nb, 0, none⟩ (.int .i64 d0)).setCell ⟨nb, 1, none⟩ (.int .i64 d1)).setCell ⟨nb, 2, none⟩ (.int .i64 d2)).setCell ⟨nb, 3, none⟩ (.int .i64 d3)).setCell ⟨nb, 4, none⟩ S
structure Pt (u : World) (nb : Nat) (x : Cv) (cs : Array Value) (v : World) : Prop where
  b : Bk v nb 24 cs
  rc : ∀ y : Cv, RC u y → RC v y
  far : ∀ g t ds, g ≠ nb → Bk u g t ds → Bk v g t ds
  low : ∀ B w, B ≤ nb → Below B w u → Below B w v
theorem put5_ok {u : World} {nb : Nat} {e0 e1 e2 e3 d0 d1 d2 d3 : Int} {E D : Option Addr} {m c m' c' : Nat} (h : Bk u nb 24 #[.int .i64 e0, .int .i64 e1, .int .i64 e2, .int .i64 e3, .slice E m c]) (x : Cv) :
    Pt u nb x #[.int .i64 d0, .int .i64 d1, .int .i64 d2, .int .i64 d3, .slice D m' c'] (put5 u nb d0 d1 d2 d3 (.slice D m' c')) := by
  have n0 : Nq #[.int .i64 e0, .int .i64 e1, .int .i64 e2, .int .i64 e3, .slice E m c] := nq_ints
  have k1 := h.set 0 (.int .i64 d0)
  have k2 := k1.set 1 (.int .i64 d1)
  have k3 := k2.set 2 (.int .i64 d2)
  have k4 := k3.set 3 (.int .i64 d3)
  have k5 := k4.set 4 (.slice D m' c')
  have n1 := n0.set 0 (v := .int .i64 d0) rfl
  have n2 := n1.set 1 (v := .int .i64 d1) rfl
  have n3 := n2.set 2 (v := .int .i64 d2) rfl
  have n4 := n3.set 3 (v := .int .i64 d3) rfl
  refine ⟨?_, fun y hy => ((((hy.farN h n0 0 _).farN k1 n1 1 _).farN k2 n2 2 _).farN k3 n3 3 _).farN k4 n4 4 _, fun g t ds hg hb => ((((hb.far (p := ⟨nb, 0, none⟩) hg _).far (p := ⟨nb, 1, none⟩) hg _).far (p := ⟨nb, 2, none⟩) hg _).far (p := ⟨nb, 3, none⟩) hg _).far (p := ⟨nb, 4, none⟩) hg _, fun B w hB hl => ((((hl.setCell (p := ⟨nb, 0, none⟩) hB _).setCell (p := ⟨nb, 1, none⟩) hB _).setCell (p := ⟨nb, 2, none⟩) hB _).setCell (p := ⟨nb, 3, none⟩) hB _).setCell (p := ⟨nb, 4, none⟩) hB _⟩
  unfold put5
  simpa only [List.setIfInBounds_toArray, List.set_cons_zero, List.set_cons_succ] using k5

/-! ### The text, read as far as i; the line that is read begins at f -/
structure Ps (S : List UInt8) (c : Cg) (nn f i : Nat) : Prop where
  fi : f ≤ i
  iD : i ≤ S.length
  ni : nn ≤ i
  run : runL zeroC 0 (linesL S) = runL c nn (linesL (S.drop f))
  no : (10 : UInt8) ∉ (S.drop f).take (i - f)
  z : nn = 0 → c.tens = []
  g : nn ≠ 0 → cfgB c = true
theorem Ps.start (S : List UInt8) : Ps S zeroC 0 0 0 := ⟨Nat.le_refl _, Nat.zero_le _, Nat.le_refl _, by simp, by simp, fun _ => rfl, fun h => absurd rfl h⟩
theorem Ps.skip {S : List UInt8} {c : Cg} {nn f i : Nat} (h : Ps S c nn f i) (hi : i < S.length) (hb : S.getD i 0 ≠ 10) : Ps S c nn f (i + 1) := by
  refine ⟨by have := h.fi; omega, by omega, by have := h.ni; omega, h.run, ?_, h.z, h.g⟩
  rw [take_more h.fi hi]
  simp only [List.mem_append, List.mem_singleton, not_or]
  exact ⟨h.no, fun e => hb e.symm⟩
theorem Ps.hit {S : List UInt8} {c : Cg} {nn f i : Nat} (h : Ps S c nn f i) (hi : i < S.length) (hb : S.getD i 0 = 10) : linesL (S.drop f) = ((S.drop f).take (i - f), true) :: linesL (S.drop (i + 1)) := by
  have e := drop_at h.fi hi
  rw [hb] at e
  have h2 := h.no
  obtain ⟨p, hp⟩ : ∃ p, (S.drop f).take (i - f) = p := ⟨_, rfl⟩
  rw [hp] at e h2 ⊢
  rw [e]
  exact lines_hit p _ h2
theorem Ps.bad {S : List UInt8} {c : Cg} {nn f i : Nat} (h : Ps S c nn f i) (hi : i < S.length) (hb : S.getD i 0 = 10) (hl : okC (withO c (nn == 0) (piecesL 32 ((S.drop f).take (i - f)))) = none) : runL zeroC 0 (linesL S) = .error nn := by
  rw [h.run, h.hit hi hb]
  simp only [runL, if_true]
  rw [lineC_with, hl]
theorem Ps.good {S : List UInt8} {c c' : Cg} {nn f i : Nat} (h : Ps S c nn f i) (hi : i < S.length) (hb : S.getD i 0 = 10) (hl : withO c (nn == 0) (piecesL 32 ((S.drop f).take (i - f))) = some c') (hc : cfgB c' = true) : Ps S c' (nn + 1) (i + 1) (i + 1) := by
  refine ⟨Nat.le_refl _, by omega, by have := h.ni; omega, ?_, by simp, fun e => absurd e (Nat.succ_ne_zero _), fun _ => hc⟩
  rw [h.run, h.hit hi hb]
  simp only [runL, if_true]
  rw [lineC_with, hl]
  simp [okC, hc]
theorem Ps.end_bad {S : List UInt8} {c : Cg} {nn f : Nat} (h : Ps S c nn f S.length) (hf : f < S.length ∨ nn = 0) : runL zeroC 0 (linesL S) = .error nn := by
  have hn := h.no
  have e : (S.drop f).take (S.length - f) = S.drop f := List.take_of_length_le (by rw [List.length_drop]; omega)
  rw [e] at hn
  rw [h.run]
  by_cases h0 : f < S.length
  · have hne : S.drop f ≠ [] := fun e => by have := congrArg List.length e; simp at this; omega
    rw [lines_miss _ hn hne]
    simp [runL]
  · have hz : nn = 0 := by omega
    subst hz
    rw [List.drop_of_length_le (by omega)]
    simp [linesL, runL]
theorem Ps.end_ok {S : List UInt8} {c : Cg} {nn f : Nat} (h : Ps S c nn f S.length) (hf : ¬ f < S.length) (hn : nn ≠ 0) : runL zeroC 0 (linesL S) = .ok c := by
  rw [h.run, List.drop_of_length_le (by omega)]
  simp [linesL, runL, hn]
theorem Ps.end_bad' {S : List UInt8} {c : Cg} {nn f n : Nat} (h : Ps S c nn f n) (e : S.length = n) (hf : f < n ∨ nn = 0) : runL zeroC 0 (linesL S) = .error nn := by
  subst e; exact h.end_bad hf
theorem Ps.end_ok' {S : List UInt8} {c : Cg} {nn n : Nat} (h : Ps S c nn n n) (e : S.length = n) (hn : nn ≠ 0) : runL zeroC 0 (linesL S) = .ok c := by
  subst e; exact h.end_ok (Nat.lt_irrefl _) hn
theorem pieces_sizes : ∀ l : List UInt8, piecesL 32 l ≠ [] ∧ (∀ z ∈ piecesL 32 l, z.length ≤ l.length) ∧ (piecesL 32 l).length ≤ l.length + 1
  | [] => by simp [piecesL]
  | x :: r => by
    obtain ⟨h1, h2, h3⟩ := pieces_sizes r
    unfold piecesL
    split
    · refine ⟨by simp, fun z hz => ?_, by simp only [List.length_cons]; omega⟩
      rcases List.mem_cons.1 hz with rfl | hz
      · simp
      · have := h2 z hz
        simp only [List.length_cons]; omega
    · cases hq : piecesL 32 r with
      | nil => exact absurd hq h1
      | cons p ps =>
        rw [hq] at h2 h3
        refine ⟨by simp, fun z hz => ?_, by simp only [List.length_cons] at h3 ⊢; omega⟩
        rcases List.mem_cons.1 hz with rfl | hz
        · have := h2 p (List.mem_cons_self ..)
          simp only [List.length_cons]; omega
        · have := h2 z (List.mem_cons_of_mem _ hz)
          simp only [List.length_cons]; omega

/-- The configuration that was read so far, in its place. -/
structure Pst (w : World) (x : Cv) (u : World) : Prop where
  rb : Bk u w.heap.size 24 #[.int .i64 0, .int .i64 0, .int .i64 0, .int .i64 0, .slice none 0 0]
  cb : Bk u (w.heap.size + 1) 24 (ccs x)
  rc : RC u x
  l : Below w.heap.size w u
theorem Pst.on {w u u' : World} {x : Cv} (h : Pst w x u) (hb : Below u.heap.size u u') : Pst w x u' := ⟨h.rb.below hb h.rb.lt, h.cb.below hb h.cb.lt, h.rc.on hb, h.l.trans (hb.mono h.l.size)⟩

set_option maxRecDepth 100000 in
set_option maxHeartbeats 8000000 in
theorem rparse_big (s : ByteArray) (w : World) (hs : 4096 < s.size) : Calls Tryz.prog 8 #[.string s] w (PaE s w) := by
  have h1 : (s.size : Int) > 4096 := by omega
  have h2 : (4096 : Int) < (s.size : Int) := by omega
  have HS := Lib.hid hs
  have HB := Lib.hid (Bk.new w 24 #[.int .i64 0, .int .i64 0, .int .i64 0, .int .i64 0, .slice none 0 0])
  have HL := Lib.hid (show Below w.heap.size w (w.alloc (.cells #[.int .i64 0, .int .i64 0, .int .i64 0, .int .i64 0, .slice none 0 0] 24)) from (Below.refl _ _).alloc (Nat.le_refl _) _)
  obtain ⟨v0, hv0⟩ : ∃ v, w.alloc (.cells #[.int .i64 0, .int .i64 0, .int .i64 0, .int .i64 0, .slice none 0 0] 24) = v := ⟨_, rfl⟩
  rw [hv0] at HB HL
  go_enter Tryz.func8, Tryz.ntmps8
  go_upto_region 1 with fail
  try rw [hv0]
  have r0 : v0.cell? ⟨w.heap.size, 0, none⟩ = some (.int .i64 0) := HB.out.cell 0
  have fr0 := HB.out.frozen 0
  have r1 : v0.cell? ⟨w.heap.size, 1, none⟩ = some (.int .i64 0) := HB.out.cell 1
  have fr1 := HB.out.frozen 1
  have r2 : v0.cell? ⟨w.heap.size, 2, none⟩ = some (.int .i64 0) := HB.out.cell 2
  have fr2 := HB.out.frozen 2
  have r3 : v0.cell? ⟨w.heap.size, 3, none⟩ = some (.int .i64 0) := HB.out.cell 3
  have fr3 := HB.out.frozen 3
  have r4 : v0.cell? ⟨w.heap.size, 4, none⟩ = some (.slice none 0 0) := HB.out.cell 4
  have fr4 := HB.out.frozen 4
  clear hv0
  go_wp2
  have hp := put5_ok (d0 := 0) (d1 := 0) (d2 := 0) (d3 := 0) (D := none) (m' := 0) (c' := 0) HB.out (⟨0, 0, 0, 0, [], none, 0⟩ : Cv)
  refine bodyPost_ret (v := .tuple #[.agg cz5, .int .i64 2, .int .i64 0]) ?_ rfl ⟨hp.low _ _ (Nat.le_refl _) HL.out, .inl ⟨HS.out, rfl⟩⟩
  have q0 := hp.b.cell 0; have q1 := hp.b.cell 1; have q2 := hp.b.cell 2; have q3 := hp.b.cell 3; have q4 := hp.b.cell 4
  unfold put5 at q0 q1 q2 q3 q4
  simp [results, Tryz.f8, go_sem, q0, q1, q2, q3, q4]

theorem rc_none (u : World) : RC u zeroCv := ⟨⟨.inl rfl, fun x hx => by cases hx⟩, ⟨Nat.le_refl _, by decide, fun _ => ⟨rfl, rfl⟩⟩⟩
/-- What 'with' told, in one form. -/
structure Wr (x : Cv) (q : Bool) (ps : List (List UInt8)) (ok : Bool) (y : Cv) (u : World) : Prop where
  yes : ok = true → RC u y ∧ withO x.cg q ps = some y.cg
  no : ok = false → withO x.cg q ps = none
theorem wr_of {x : Cv} {q : Bool} {ps : List (List UInt8)} {w : World} {e : Ending} {u : World} (h : WiP x q ps w e u) : ∃ ok y, e = .returned (.tuple #[.agg (ccs y), .bool ok]) ∧ Wr x q ps ok y u ∧ Below w.heap.size w u := by
  obtain ⟨hb, ⟨y, e1, h1⟩ | ⟨y, e1, h1, h2⟩⟩ := h
  · exact ⟨false, y, e1, ⟨fun h => by (cases h), fun _ => h1⟩, hb⟩
  · exact ⟨true, y, e1, ⟨fun _ => ⟨h1, h2⟩, fun h => by (cases h)⟩, hb⟩
theorem Wr.on {x : Cv} {q : Bool} {ps : List (List UInt8)} {ok : Bool} {y : Cv} {u u' : World} (h : Wr x q ps ok y u) (hb : Below u.heap.size u u') : Wr x q ps ok y u' := ⟨fun e => ⟨(h.yes e).1.on hb, (h.yes e).2⟩, h.no⟩
theorem Wr.put {x : Cv} {q : Bool} {ps : List (List UInt8)} {ok : Bool} {y z : Cv} {nb : Nat} {cs : Array Value} {u u' : World} (h : Wr x q ps ok y u) (hp : Pt u nb z cs u') : Wr x q ps ok y u' := ⟨fun e => ⟨hp.rc _ (h.yes e).1, (h.yes e).2⟩, h.no⟩
theorem Pst.put {w : World} {x z : Cv} {u u' : World} {nb : Nat} {cs : Array Value} (h : Pst w x u) (hp : Pt u nb z cs u') (hn : w.heap.size + 2 ≤ nb) : Pst w x u' := ⟨hp.far _ _ _ (by omega) h.rb, hp.far _ _ _ (by omega) h.cb, hp.rc _ h.rc, hp.low _ _ (by omega) h.l⟩
theorem Pst.next {w : World} {x y z : Cv} {u u' : World} (h : Pst w x u) (hy : RC u y) (hp : Pt u (w.heap.size + 1) z (ccs y) u') : Pst w y u' := ⟨hp.far _ _ _ (by omega) h.rb, hp.b, hp.rc _ hy, hp.low _ _ (by omega) h.l⟩
theorem Pst.size {w : World} {x : Cv} {u : World} (h : Pst w x u) : w.heap.size + 2 ≤ u.heap.size := h.cb.lt
theorem st_start (w : World) : Pst w zeroCv ((w.alloc (.cells #[.int .i64 0, .int .i64 0, .int .i64 0, .int .i64 0, .slice none 0 0] 24)).alloc (.cells #[.int .i64 0, .int .i64 0, .int .i64 0, .int .i64 0, .slice none 0 0] 24)) :=
  ⟨(Bk.new w _ _).alloc _, by have := Bk.new (w.alloc (.cells #[.int .i64 0, .int .i64 0, .int .i64 0, .int .i64 0, .slice none 0 0] 24)) 24 #[.int .i64 0, .int .i64 0, .int .i64 0, .int .i64 0, .slice none 0 0]; rwa [World.size_alloc] at this, rc_none _, ((Below.refl _ _).alloc (Nat.le_refl _) _).alloc (by rw [World.size_alloc]; omega) _⟩
/-- Behind a line that was read: nb is the block of what it told. -/
structure Lnd (w : World) (x : Cv) (q : Bool) (ps : List (List UInt8)) (ok : Bool) (y : Cv) (nb : Nat) (u : World) : Prop where
  b : Bk u nb 24 (ccs y)
  s : Pst w x u
  r : Wr x q ps ok y u
theorem few_zero : FewC zeroCv := ⟨by decide, fun y hy => by cases hy⟩

set_option maxRecDepth 100000 in
set_option maxHeartbeats 16000000 in
theorem rparse_small (S : List UInt8) (w : World) (hs : S.length ≤ 4096) : Calls Tryz.prog 8 #[.string (bs S)] w (PaE (bs S) w) := by
  obtain ⟨n, hn⟩ : ∃ n, S.length = n := ⟨_, rfl⟩
  rw [hn] at hs
  have hsz : (bs S).size = n := by rw [bs_size, hn]
  have HSL := Lib.hid hn
  have HPC := Lib.hid (show parseC (bs S) = runL zeroC 0 (linesL S) by unfold parseC; rw [bs_data])
  have HS9 := Lib.hid (show (bs S).size ≤ 4096 by omega)
  obtain ⟨B, hB⟩ : ∃ B, bs S = B := ⟨_, rfl⟩
  rw [hB] at hsz HPC HS9 ⊢
  have HBS := Lib.hid hB
  have hs1 : ¬ (n : Int) > 4096 := by omega
  have hs2 : ¬ (4096 : Int) < (n : Int) := by omega
  clear hn hB
  have HST0 := Lib.hid (st_start w)
  go_enter Tryz.func8, Tryz.ntmps8
  go_wp2
  obtain ⟨v0, hv0⟩ : ∃ v, ((w.alloc (.cells #[.int .i64 0, .int .i64 0, .int .i64 0, .int .i64 0, .slice none 0 0] 24)).alloc (.cells #[.int .i64 0, .int .i64 0, .int .i64 0, .int .i64 0, .slice none 0 0] 24)) = v := ⟨_, rfl⟩
  rw [hv0] at HST0 ⊢
  clear hv0
  go_loopw [6, 7, 8] (fun v6 v7 v8 wr => ∃ (x : Cv) (nn f i : Nat), f ≤ i ∧ nn ≤ i ∧ i ≤ n ∧ v6 = .int .i64 (f : Int) ∧ v7 = .int .i64 (nn : Int) ∧ v8 = .int .i64 (i : Int) ∧ Hid (FewC x) ∧ Hid (Ps S x.cg nn f i) ∧ Hid (Pst w x wr)) (fun _ _ v8 _ => n - (intOf v8).toNat)
  case atStart => exact ⟨zeroCv, 0, 0, 0, Nat.le_refl _, Nat.le_refl _, Nat.zero_le _, rfl, rfl, rfl, Lib.hid few_zero, Lib.hid (Ps.start S), HST0⟩
  case round =>
    obtain ⟨x, nn, f, i, hfi, hni, hi, rfl, rfl, rfl, HFW, HPS, HST⟩ := hrel
    by_cases hi1 : i < n
    · obtain ⟨xb, hx⟩ : ∃ x, (B.data.toList.getD i 0).toNat = x := ⟨_, rfl⟩
      have hix := sidx B i xb (by omega) hx wr
      obtain ⟨b, hb⟩ : ∃ b, decide (S.getD i 0 = 10) = b := ⟨_, rfl⟩
      have hxS : (S.getD i 0).toNat = xb := by rw [← hx, ← HBS.out, bs_data]
      have hbx : ((xb : Int) == 10) = b := by
        rw [← hb, Bool.eq_iff_iff, beq_iff_eq, decide_eq_true_iff, ← hxS]
        constructor
        · intro h
          apply UInt8.toNat_inj.1
          show _ = 10
          omega
        · intro h; rw [h]; rfl
      have hbn : ((xb : Int) != 10) = !b := by unfold bne; rw [hbx]
      have HBD := Lib.hid hb
      clear hx hxS hb
      have hi2 : (i : Int) < (n : Int) := by omega
      have hni1 : (i : Int) + 1 ≤ 4097 := by omega
      cases b with
      | false =>
        have hbn' : ((xb : Int) != 10) = true := hbn
        go_wp2
        go_roundw
        case rel => exact ⟨x, nn, f, i + 1, by omega, by omega, by omega, rfl, rfl, by go_num, HFW, Lib.hid (HPS.out.skip (by rw [HSL.out]; exact hi1) (of_decide_eq_false HBD.out)), HST⟩
        case measure => simp [intOf]; omega
      | true =>
        have hbn' : ((xb : Int) != 10) = false := hbn
        have HB10 := Lib.hid (show S.getD i 0 = 10 from of_decide_eq_true HBD.out)
        obtain ⟨q, hq⟩ : ∃ q, (nn == 0) = q := ⟨_, rfl⟩
        have hq1 : ((nn : Int) == 0) = q := by rw [← hq, Bool.eq_iff_iff, beq_iff_eq, beq_iff_eq]; omega
        have HQ := Lib.hid hq
        clear hq
        have hsl : ∀ wz, (Instr.sliceAt 9 (.string B) (some (.int .i64 (f : Int))) (some (.int .i64 (i : Int))) none).run Tryz.prog wz = .ok (.string (bs ((S.drop f).take (i - f)))) wz := fun wz => by
          rw [← HBS.out]
          go_simp
          rw [if_pos (by rw [bs_size, HSL.out]; omega), bs_part]
        have HSP := Lib.hid (fun c' hl hc => HPS.out.good (c' := c') (by rw [HSL.out]; exact hi1) HB10.out hl hc)
        have HSB := Lib.hid (HPS.out.bad (by rw [HSL.out]; exact hi1) HB10.out)
        have HPL := Lib.hid (show ((S.drop f).take (i - f)).length ≤ 4096 by rw [List.length_take, List.length_drop, HSL.out]; omega)
        rw [HQ.out] at HSP HSB
        have HFI := Lib.hid (show q = true → x.ts = [] from fun e => by
          have h0 : nn = 0 := by rw [← HQ.out] at e; exact beq_iff_eq.1 e
          have := HPS.out.z h0
          simpa [Cv.cg] using this)
        obtain ⟨p, hp⟩ : ∃ p, (S.drop f).take (i - f) = p := ⟨_, rfl⟩
        rw [hp] at hsl HSP HSB HPL
        clear hp
        have HSLI := Lib.hid hsl
        clear hsl
        obtain ⟨hz1, hz2, hz3⟩ := pieces_sizes p
        have HZ1 := Lib.hid hz1
        have HZ2 := Lib.hid (show ∀ z ∈ piecesL 32 p, z.length ≤ 1099511627 from fun z hz => by have := hz2 z hz; have := HPL.out; omega)
        have HZ3 := Lib.hid (show (piecesL 32 p).length ≤ 1099511627 by have := HPL.out; omega)
        clear hz1 hz2 hz3
        have HWD := Lib.hid (fun u => rwords_ok p u (by have := HPL.out; omega))
        obtain ⟨ps, hps⟩ : ∃ ps, piecesL 32 p = ps := ⟨_, rfl⟩
        simp only [hps] at HSP HSB HZ1 HZ2 HZ3 HWD
        clear hps
        have HWI := Lib.hid (fun (u : World) (A : Option Addr) (c B' : Nat) (hu : Pst w x u) (hr : OSt u B' A c ps) => rwith_ok x q A c B' ps u HZ1.out hu.rc HFW.out HFI.out hr HZ2.out HZ3.out)
        obtain ⟨a0, a1, a2, a3, ts, A, c1⟩ := x
        obtain ⟨m, hm⟩ : ∃ m, ts.length = m := ⟨_, rfl⟩
        have HM := Lib.hid hm
        simp only [ccs, hm] at HWI
        clear hm
        go_upto_region 10 with fail
        try simp only [List.cons_append, List.nil_append]
        try simp only [List.cons_append, List.nil_append]
        refine wp_region_held_drew (S := fun u => Pst w ⟨a0, a1, a2, a3, ts, A, c1⟩ u) (by kernel_rfl) (HST.out.on (Below.refl _ _).drew) (fun hHeld => ?_)
        clear hix hbx hbn hbn' hHeld
        refine gen_hE (fun u => Pst w ⟨a0, a1, a2, a3, ts, A, c1⟩ u) (HST.out.on (Below.refl _ _).drew) (fun d0 hd0 => ?_)
        have hHeld := hd0
        have HD0 := Lib.hid hd0
        clear hd0
        refine tk (some 26) 0 (v := ?_) rfl rfl ?_ hHeld ?_
        rotate_left
        · intro wz hSw; have k0 : wz.cell? ⟨w.heap.size + 1, 0, none⟩ = some (.int .i64 a0) := hSw.cb.cell 0; have k1 : wz.cell? ⟨w.heap.size + 1, 1, none⟩ = some (.int .i64 a1) := hSw.cb.cell 1; have k2 : wz.cell? ⟨w.heap.size + 1, 2, none⟩ = some (.int .i64 a2) := hSw.cb.cell 2; have k3 : wz.cell? ⟨w.heap.size + 1, 3, none⟩ = some (.int .i64 a3) := hSw.cb.cell 3; have k4 : wz.cell? ⟨w.heap.size + 1, 4, none⟩ = some (.slice A m c1) := (by rw [← HM.out]; exact hSw.cb.cell 4); go_simp; try (with_reducible rfl)
        try simp only [lay]
        refine tk (some 27) 1 (v := ?_) rfl rfl ?_ hHeld ?_
        rotate_left
        · intro wz hSw; have k0 : wz.cell? ⟨w.heap.size + 1, 0, none⟩ = some (.int .i64 a0) := hSw.cb.cell 0; have k1 : wz.cell? ⟨w.heap.size + 1, 1, none⟩ = some (.int .i64 a1) := hSw.cb.cell 1; have k2 : wz.cell? ⟨w.heap.size + 1, 2, none⟩ = some (.int .i64 a2) := hSw.cb.cell 2; have k3 : wz.cell? ⟨w.heap.size + 1, 3, none⟩ = some (.int .i64 a3) := hSw.cb.cell 3; have k4 : wz.cell? ⟨w.heap.size + 1, 4, none⟩ = some (.slice A m c1) := (by rw [← HM.out]; exact hSw.cb.cell 4); go_simp; try (with_reducible rfl)
        try simp only [lay]
        refine tk (some 28) 2 (v := ?_) rfl rfl ?_ hHeld ?_
        rotate_left
        · intro wz hSw; have k0 : wz.cell? ⟨w.heap.size + 1, 0, none⟩ = some (.int .i64 a0) := hSw.cb.cell 0; have k1 : wz.cell? ⟨w.heap.size + 1, 1, none⟩ = some (.int .i64 a1) := hSw.cb.cell 1; have k2 : wz.cell? ⟨w.heap.size + 1, 2, none⟩ = some (.int .i64 a2) := hSw.cb.cell 2; have k3 : wz.cell? ⟨w.heap.size + 1, 3, none⟩ = some (.int .i64 a3) := hSw.cb.cell 3; have k4 : wz.cell? ⟨w.heap.size + 1, 4, none⟩ = some (.slice A m c1) := (by rw [← HM.out]; exact hSw.cb.cell 4); go_simp; try (with_reducible rfl)
        try simp only [lay]
        refine tk (some 29) 3 (v := ?_) rfl rfl ?_ hHeld ?_
        rotate_left
        · intro wz hSw; have k0 : wz.cell? ⟨w.heap.size + 1, 0, none⟩ = some (.int .i64 a0) := hSw.cb.cell 0; have k1 : wz.cell? ⟨w.heap.size + 1, 1, none⟩ = some (.int .i64 a1) := hSw.cb.cell 1; have k2 : wz.cell? ⟨w.heap.size + 1, 2, none⟩ = some (.int .i64 a2) := hSw.cb.cell 2; have k3 : wz.cell? ⟨w.heap.size + 1, 3, none⟩ = some (.int .i64 a3) := hSw.cb.cell 3; have k4 : wz.cell? ⟨w.heap.size + 1, 4, none⟩ = some (.slice A m c1) := (by rw [← HM.out]; exact hSw.cb.cell 4); go_simp; try (with_reducible rfl)
        try simp only [lay]
        refine tk (some 30) 4 (v := ?_) rfl rfl ?_ hHeld ?_
        rotate_left
        · intro wz hSw; have k0 : wz.cell? ⟨w.heap.size + 1, 0, none⟩ = some (.int .i64 a0) := hSw.cb.cell 0; have k1 : wz.cell? ⟨w.heap.size + 1, 1, none⟩ = some (.int .i64 a1) := hSw.cb.cell 1; have k2 : wz.cell? ⟨w.heap.size + 1, 2, none⟩ = some (.int .i64 a2) := hSw.cb.cell 2; have k3 : wz.cell? ⟨w.heap.size + 1, 3, none⟩ = some (.int .i64 a3) := hSw.cb.cell 3; have k4 : wz.cell? ⟨w.heap.size + 1, 4, none⟩ = some (.slice A m c1) := (by rw [← HM.out]; exact hSw.cb.cell 4); go_simp; try (with_reducible rfl)
        try simp only [lay]
        refine tk (some 31) 5 (v := ?_) rfl rfl ?_ hHeld ?_
        rotate_left
        · intro wz hSw; have k0 : wz.cell? ⟨w.heap.size + 1, 0, none⟩ = some (.int .i64 a0) := hSw.cb.cell 0; have k1 : wz.cell? ⟨w.heap.size + 1, 1, none⟩ = some (.int .i64 a1) := hSw.cb.cell 1; have k2 : wz.cell? ⟨w.heap.size + 1, 2, none⟩ = some (.int .i64 a2) := hSw.cb.cell 2; have k3 : wz.cell? ⟨w.heap.size + 1, 3, none⟩ = some (.int .i64 a3) := hSw.cb.cell 3; have k4 : wz.cell? ⟨w.heap.size + 1, 4, none⟩ = some (.slice A m c1) := (by rw [← HM.out]; exact hSw.cb.cell 4); go_simp; try (with_reducible rfl)
        try simp only [lay]
        refine tk (some 32) 6 (v := ?_) rfl rfl ?_ hHeld ?_
        rotate_left
        · intro wz hSw; have hsl := HSLI.out wz; go_simp; try (with_reducible rfl)
        try simp only [lay]
        refine wpAnyH_ready (rs := [7, 12]) (by kernel_rfl) (by simp) (AllReadyH.cons rfl (fun K hK => ?_) (AllReadyH.cons rfl (fun K hK => ?_) AllReadyH.nil))
        · rw [if_pos (by kernel_rfl)]
          go_simp
          refine (HWD.out _).mono ?_
          rintro e d1 ⟨Aw, cw, rfl, how, hb1⟩
          try dsimp only
          have hs1' := (HD0.out).on hb1
          refine hK.out _ _ hs1' (fun hHeld => ?_)
          try simp only [lay]
          refine wpAnyH_ready (rs := [8, 12]) (by kernel_rfl) (by simp) (AllReadyH.cons rfl (fun K hK => ?_) (AllReadyH.cons rfl (fun K hK => ?_) AllReadyH.nil))
          · rw [if_pos (by kernel_rfl)]
            go_simp
            refine (HWI.out _ _ _ _ (hs1') (how)).mono ?_
            rintro e d2 hwi
            obtain ⟨ok, y, rfl, hwr, hb2⟩ := wr_of hwi
            clear hwi
            try dsimp only
            have hs2' := (hs1').on hb2
            refine hK.out _ _ hs2' (fun hHeld => ?_)
            try simp only [lay]
            refine tk (some 25) 9 (v := ?_) rfl rfl ?_ hHeld ?_
            rotate_left
            · intro wz hSw; go_simp; try (with_reducible rfl)
            try simp only [lay]
            refine tk (some 35) 10 (v := ?_) rfl rfl ?_ hHeld ?_
            rotate_left
            · intro wz hSw; go_simp; try (with_reducible rfl)
            try simp only [lay]
            refine tk (some 36) 11 (v := ?_) rfl rfl ?_ hHeld ?_
            rotate_left
            · intro wz hSw; go_simp; try (with_reducible rfl)
            try simp only [lay]
            refine wpAnyH_ready (rs := [12]) (by kernel_rfl) (by simp) (AllReadyH.cons rfl (fun K hK => ?_) AllReadyH.nil)
            rw [if_pos (by kernel_rfl)]
            go_simp
            have hs3' := (hs2').on ((Below.refl _ _).alloc (Nat.le_refl _) (.cells #[.int .i64 0, .int .i64 0, .int .i64 0, .int .i64 0, .slice none 0 0] 24))
            have hnb := Bk.new d2 24 #[.int .i64 0, .int .i64 0, .int .i64 0, .int .i64 0, .slice none 0 0]
            have hnl : w.heap.size + 2 ≤ d2.heap.size := (hs2').size
            refine hK.out _ _ hs3' (fun hHeld => ?_)
            try simp only [lay]
            refine gen_hE (fun u => Pst w ⟨a0, a1, a2, a3, ts, A, c1⟩ u ∧ Bk u d2.heap.size 24 #[.int .i64 0, .int .i64 0, .int .i64 0, .int .i64 0, .slice none 0 0] ∧ Wr ⟨a0, a1, a2, a3, ts, A, c1⟩ q ps ok y u) ⟨hs3', hnb, hwr.on ((Below.refl _ _).alloc (Nat.le_refl _) (.cells #[.int .i64 0, .int .i64 0, .int .i64 0, .int .i64 0, .slice none 0 0] 24))⟩ (fun uu huu => ?_)
            have HSU := Lib.hid huu.1
            have HNB := Lib.hid huu.2.1
            have HWU := Lib.hid huu.2.2
            have HNL := Lib.hid hnl
            obtain ⟨nb, hnbe⟩ : ∃ g, d2.heap.size = g := ⟨_, rfl⟩
            rw [hnbe] at HNB HNL ⊢
            clear hnbe huu hnl hHeld
            obtain ⟨b0, b1, b2, b3, us, D, c2⟩ := y
            obtain ⟨k, hk⟩ : ∃ k, us.length = k := ⟨_, rfl⟩
            have HK := Lib.hid hk
            try simp only [ccs, hk]
            clear hk
            have z0 : uu.cell? ⟨nb, 0, none⟩ = some (.int .i64 0) := HNB.out.cell 0
            have fz0 := HNB.out.frozen 0
            have z1 : uu.cell? ⟨nb, 1, none⟩ = some (.int .i64 0) := HNB.out.cell 1
            have fz1 := HNB.out.frozen 1
            have z2 : uu.cell? ⟨nb, 2, none⟩ = some (.int .i64 0) := HNB.out.cell 2
            have fz2 := HNB.out.frozen 2
            have z3 : uu.cell? ⟨nb, 3, none⟩ = some (.int .i64 0) := HNB.out.cell 3
            have fz3 := HNB.out.frozen 3
            have z4 : uu.cell? ⟨nb, 4, none⟩ = some (.slice none 0 0) := HNB.out.cell 4
            have fz4 := HNB.out.frozen 4
            have hpt := put5_ok (d0 := b0) (d1 := b1) (d2 := b2) (d3 := b3) (D := D) (m' := k) (c' := c2) HNB.out (⟨0, 0, 0, 0, [], none, 0⟩ : Cv)
            unfold put5 at hpt
            refine wpAnyH_ready (rs := [13]) (by kernel_rfl) (by simp) (AllReadyH.cons rfl (fun K hK => ?_) AllReadyH.nil)
            rw [if_pos (by kernel_rfl)]
            go_simp
            refine hK.out _ _ (HSU.out.put hpt HNL.out) (fun hHeld => ?_)
            try simp only [lay]
            refine tk (some 10) 14 (v := ?_) rfl rfl ?_ hHeld ?_
            rotate_left
            · intro wz hSw; go_simp; try (with_reducible rfl)
            try simp only [lay]
            refine wpAnyH_done (by kernel_rfl) ?_ _
            refine gen_qE (fun u => Lnd w ⟨a0, a1, a2, a3, ts, A, c1⟩ q ps ok ⟨b0, b1, b2, b3, us, D, c2⟩ nb u) ⟨by have := hpt.b; simp only [ccs, HK.out]; exact this, HSU.out.put hpt HNL.out, HWU.out.put hpt⟩ (fun U hU => ?_)
            clear hpt hHeld z0 fz0 z1 fz1 z2 fz2 z3 fz3 z4 fz4
            have HU := Lib.hid hU
            clear hU
            have t0 : U.cell? ⟨nb, 0, none⟩ = some (.int .i64 b0) := HU.out.b.cell 0
            have t1 : U.cell? ⟨nb, 1, none⟩ = some (.int .i64 b1) := HU.out.b.cell 1
            have t2 : U.cell? ⟨nb, 2, none⟩ = some (.int .i64 b2) := HU.out.b.cell 2
            have t3 : U.cell? ⟨nb, 3, none⟩ = some (.int .i64 b3) := HU.out.b.cell 3
            have t4 : U.cell? ⟨nb, 4, none⟩ = some (.slice D k c2) := by rw [← HK.out]; exact HU.out.b.cell 4
            have HRB := Lib.hid HU.out.s.rb
            have r0 : U.cell? ⟨w.heap.size, 0, none⟩ = some (.int .i64 0) := HRB.out.cell 0
            have fr0 := HRB.out.frozen 0
            have r1 : U.cell? ⟨w.heap.size, 1, none⟩ = some (.int .i64 0) := HRB.out.cell 1
            have fr1 := HRB.out.frozen 1
            have r2 : U.cell? ⟨w.heap.size, 2, none⟩ = some (.int .i64 0) := HRB.out.cell 2
            have fr2 := HRB.out.frozen 2
            have r3 : U.cell? ⟨w.heap.size, 3, none⟩ = some (.int .i64 0) := HRB.out.cell 3
            have fr3 := HRB.out.frozen 3
            have r4 : U.cell? ⟨w.heap.size, 4, none⟩ = some (.slice none 0 0) := HRB.out.cell 4
            have fr4 := HRB.out.frozen 4
            cases ok with
            | false =>
              have HR := Lib.hid (HSB.out (by rw [HU.out.r.no rfl]; rfl))
              go_wp2
              have hp := put5_ok (d0 := 0) (d1 := 0) (d2 := 0) (d3 := 0) (D := none) (m' := 0) (c' := 0) HU.out.s.rb (⟨0, 0, 0, 0, [], none, 0⟩ : Cv)
              refine bodyPost_ret (v := .tuple #[.agg cz5, .int .i64 91, .int .i64 (nn : Int)]) ?_ rfl ⟨hp.low _ _ (Nat.le_refl _) HU.out.s.l, .inr ⟨HS9.out, .inl ⟨nn, HPC.out.trans HR.out, rfl⟩⟩⟩
              have q0 := hp.b.cell 0; have q1 := hp.b.cell 1; have q2 := hp.b.cell 2; have q3 := hp.b.cell 3; have q4 := hp.b.cell 4
              unfold put5 at q0 q1 q2 q3 q4
              simp [results, Tryz.f8, go_sem, q0, q1, q2, q3, q4]
            | true =>
              obtain ⟨hry, hwy⟩ := HU.out.r.yes rfl
              have HRY := Lib.hid hry
              have HWY := Lib.hid hwy
              clear hry hwy
              have HRG := Lib.hid (rfright_ok ⟨b0, b1, b2, b3, us, D, c2⟩ U HRY.out)
              simp only [ccs, HK.out] at HRG
              obtain ⟨g, hg⟩ : ∃ g, cfgB (Cv.cg ⟨b0, b1, b2, b3, us, D, c2⟩) = g := ⟨_, rfl⟩
              rw [hg] at HRG
              have HG := Lib.hid hg
              clear hg
              cases g with
              | false =>
                have HR := Lib.hid (HSB.out (by rw [HWY.out]; unfold okC; simp [HG.out]))
                clear r0 fr0 r1 fr1 r2 fr2 r3 fr3 r4 fr4
                go_wp2_with (go_at_call 14; (with_reducible refine HRG.out.mono ?_); rintro e u5 ⟨rfl, hb5⟩; have HS5 := Lib.hid (HU.out.s.on hb5); have HRY5 := Lib.hid (HRY.out.on hb5); have HNB5 := Lib.hid (HU.out.b.below hb5 HU.out.b.lt); clear hb5; have r0 : u5.cell? ⟨w.heap.size, 0, none⟩ = some (.int .i64 0) := HS5.out.rb.cell 0; have fr0 := HS5.out.rb.frozen 0; have r1 : u5.cell? ⟨w.heap.size, 1, none⟩ = some (.int .i64 0) := HS5.out.rb.cell 1; have fr1 := HS5.out.rb.frozen 1; have r2 : u5.cell? ⟨w.heap.size, 2, none⟩ = some (.int .i64 0) := HS5.out.rb.cell 2; have fr2 := HS5.out.rb.frozen 2; have r3 : u5.cell? ⟨w.heap.size, 3, none⟩ = some (.int .i64 0) := HS5.out.rb.cell 3; have fr3 := HS5.out.rb.frozen 3; have r4 : u5.cell? ⟨w.heap.size, 4, none⟩ = some (.slice none 0 0) := HS5.out.rb.cell 4; have fr4 := HS5.out.rb.frozen 4)
                have hp := put5_ok (d0 := 0) (d1 := 0) (d2 := 0) (d3 := 0) (D := none) (m' := 0) (c' := 0) HS5.out.rb (⟨0, 0, 0, 0, [], none, 0⟩ : Cv)
                refine bodyPost_ret (v := .tuple #[.agg cz5, .int .i64 91, .int .i64 (nn : Int)]) ?_ rfl ⟨hp.low _ _ (Nat.le_refl _) HS5.out.l, .inr ⟨HS9.out, .inl ⟨nn, HPC.out.trans HR.out, rfl⟩⟩⟩
                have q0 := hp.b.cell 0; have q1 := hp.b.cell 1; have q2 := hp.b.cell 2; have q3 := hp.b.cell 3; have q4 := hp.b.cell 4
                unfold put5 at q0 q1 q2 q3 q4
                simp [results, Tryz.f8, go_sem, q0, q1, q2, q3, q4]
              | true =>
                clear r0 fr0 r1 fr1 r2 fr2 r3 fr3 r4 fr4
                have hn3 : wrap64 ((nn : Int) + 1) = (nn : Int) + 1 := by unfold wrap64; omega
                go_wp2_with (go_at_call 14; (with_reducible refine HRG.out.mono ?_); rintro e u5 ⟨rfl, hb5⟩; have HS5 := Lib.hid (HU.out.s.on hb5); have HRY5 := Lib.hid (HRY.out.on hb5); have HNB5 := Lib.hid (HU.out.b.below hb5 HU.out.b.lt); clear hb5; have y0 : u5.cell? ⟨nb, 0, none⟩ = some (.int .i64 b0) := HNB5.out.cell 0; have y1 : u5.cell? ⟨nb, 1, none⟩ = some (.int .i64 b1) := HNB5.out.cell 1; have y2 : u5.cell? ⟨nb, 2, none⟩ = some (.int .i64 b2) := HNB5.out.cell 2; have y3 : u5.cell? ⟨nb, 3, none⟩ = some (.int .i64 b3) := HNB5.out.cell 3; have y4 : u5.cell? ⟨nb, 4, none⟩ = some (.slice D k c2) := (by rw [← HK.out]; exact HNB5.out.cell 4); have p0 : u5.cell? ⟨w.heap.size + 1, 0, none⟩ = some (.int .i64 a0) := HS5.out.cb.cell 0; have fp0 := HS5.out.cb.frozen 0; have p1 : u5.cell? ⟨w.heap.size + 1, 1, none⟩ = some (.int .i64 a1) := HS5.out.cb.cell 1; have fp1 := HS5.out.cb.frozen 1; have p2 : u5.cell? ⟨w.heap.size + 1, 2, none⟩ = some (.int .i64 a2) := HS5.out.cb.cell 2; have fp2 := HS5.out.cb.frozen 2; have p3 : u5.cell? ⟨w.heap.size + 1, 3, none⟩ = some (.int .i64 a3) := HS5.out.cb.cell 3; have fp3 := HS5.out.cb.frozen 3; have p4 : u5.cell? ⟨w.heap.size + 1, 4, none⟩ = some (.slice A m c1) := (by rw [← HM.out]; exact HS5.out.cb.cell 4); have fp4 := HS5.out.cb.frozen 4)
                have hcb := HS5.out.cb
                simp only [ccs, HM.out] at hcb
                have hp := put5_ok (d0 := b0) (d1 := b1) (d2 := b2) (d3 := b3) (D := D) (m' := k) (c' := c2) hcb (⟨0, 0, 0, 0, [], none, 0⟩ : Cv)
                have hp2 : Pt u5 (w.heap.size + 1) (⟨0, 0, 0, 0, [], none, 0⟩ : Cv) (ccs ⟨b0, b1, b2, b3, us, D, c2⟩) (put5 u5 (w.heap.size + 1) b0 b1 b2 b3 (.slice D k c2)) := by simp only [ccs, HK.out]; exact hp
                have HSN := Lib.hid (HS5.out.next HRY5.out hp2)
                unfold put5 at HSN
                clear hp hp2 hcb
                go_roundw
                case rel => exact ⟨⟨b0, b1, b2, b3, us, D, c2⟩, nn + 1, i + 1, i + 1, Nat.le_refl _, by omega, by omega, by go_num, by go_num, by go_num, Lib.hid (few_of HG.out), Lib.hid (HSP.out _ HWY.out HG.out), HSN⟩
                case measure => simp [intOf]; omega
          · rw [if_pos (by kernel_rfl)]
            go_simp
            have hs3' := (hs1').on ((Below.refl _ _).alloc (Nat.le_refl _) (.cells #[.int .i64 0, .int .i64 0, .int .i64 0, .int .i64 0, .slice none 0 0] 24))
            have hnb := Bk.new d1 24 #[.int .i64 0, .int .i64 0, .int .i64 0, .int .i64 0, .slice none 0 0]
            have hnl : w.heap.size + 2 ≤ d1.heap.size := (hs1').size
            refine hK.out _ _ hs3' (fun hHeld => ?_)
            try simp only [lay]
            refine wpAnyH_ready (rs := [8]) (by kernel_rfl) (by simp) (AllReadyH.cons rfl (fun K hK => ?_) AllReadyH.nil)
            rw [if_pos (by kernel_rfl)]
            go_simp
            refine (HWI.out _ _ _ _ (hs3') (how.on ((Below.refl _ _).alloc (Nat.le_refl _) (.cells #[.int .i64 0, .int .i64 0, .int .i64 0, .int .i64 0, .slice none 0 0] 24)))).mono ?_
            rintro e d2 hwi
            obtain ⟨ok, y, rfl, hwr, hb2⟩ := wr_of hwi
            clear hwi
            try dsimp only
            have hs2' := (hs3').on hb2
            have hnb2 := hnb.below hb2 hnb.lt
            refine hK.out _ _ hs2' (fun hHeld => ?_)
            try simp only [lay]
            refine tk (some 25) 9 (v := ?_) rfl rfl ?_ hHeld ?_
            rotate_left
            · intro wz hSw; go_simp; try (with_reducible rfl)
            try simp only [lay]
            refine tk (some 35) 10 (v := ?_) rfl rfl ?_ hHeld ?_
            rotate_left
            · intro wz hSw; go_simp; try (with_reducible rfl)
            try simp only [lay]
            refine tk (some 36) 11 (v := ?_) rfl rfl ?_ hHeld ?_
            rotate_left
            · intro wz hSw; go_simp; try (with_reducible rfl)
            try simp only [lay]
            refine gen_hE (fun u => Pst w ⟨a0, a1, a2, a3, ts, A, c1⟩ u ∧ Bk u d1.heap.size 24 #[.int .i64 0, .int .i64 0, .int .i64 0, .int .i64 0, .slice none 0 0] ∧ Wr ⟨a0, a1, a2, a3, ts, A, c1⟩ q ps ok y u) ⟨hs2', hnb2, hwr⟩ (fun uu huu => ?_)
            have HSU := Lib.hid huu.1
            have HNB := Lib.hid huu.2.1
            have HWU := Lib.hid huu.2.2
            have HNL := Lib.hid hnl
            obtain ⟨nb, hnbe⟩ : ∃ g, d1.heap.size = g := ⟨_, rfl⟩
            rw [hnbe] at HNB HNL ⊢
            clear hnbe huu hnl hHeld
            obtain ⟨b0, b1, b2, b3, us, D, c2⟩ := y
            obtain ⟨k, hk⟩ : ∃ k, us.length = k := ⟨_, rfl⟩
            have HK := Lib.hid hk
            try simp only [ccs, hk]
            clear hk
            have z0 : uu.cell? ⟨nb, 0, none⟩ = some (.int .i64 0) := HNB.out.cell 0
            have fz0 := HNB.out.frozen 0
            have z1 : uu.cell? ⟨nb, 1, none⟩ = some (.int .i64 0) := HNB.out.cell 1
            have fz1 := HNB.out.frozen 1
            have z2 : uu.cell? ⟨nb, 2, none⟩ = some (.int .i64 0) := HNB.out.cell 2
            have fz2 := HNB.out.frozen 2
            have z3 : uu.cell? ⟨nb, 3, none⟩ = some (.int .i64 0) := HNB.out.cell 3
            have fz3 := HNB.out.frozen 3
            have z4 : uu.cell? ⟨nb, 4, none⟩ = some (.slice none 0 0) := HNB.out.cell 4
            have fz4 := HNB.out.frozen 4
            have hpt := put5_ok (d0 := b0) (d1 := b1) (d2 := b2) (d3 := b3) (D := D) (m' := k) (c' := c2) HNB.out (⟨0, 0, 0, 0, [], none, 0⟩ : Cv)
            unfold put5 at hpt
            refine wpAnyH_ready (rs := [13]) (by kernel_rfl) (by simp) (AllReadyH.cons rfl (fun K hK => ?_) AllReadyH.nil)
            rw [if_pos (by kernel_rfl)]
            go_simp
            refine hK.out _ _ (HSU.out.put hpt HNL.out) (fun hHeld => ?_)
            try simp only [lay]
            refine tk (some 10) 14 (v := ?_) rfl rfl ?_ hHeld ?_
            rotate_left
            · intro wz hSw; go_simp; try (with_reducible rfl)
            try simp only [lay]
            refine wpAnyH_done (by kernel_rfl) ?_ _
            refine gen_qE (fun u => Lnd w ⟨a0, a1, a2, a3, ts, A, c1⟩ q ps ok ⟨b0, b1, b2, b3, us, D, c2⟩ nb u) ⟨by have := hpt.b; simp only [ccs, HK.out]; exact this, HSU.out.put hpt HNL.out, HWU.out.put hpt⟩ (fun U hU => ?_)
            clear hpt hHeld z0 fz0 z1 fz1 z2 fz2 z3 fz3 z4 fz4
            have HU := Lib.hid hU
            clear hU
            have t0 : U.cell? ⟨nb, 0, none⟩ = some (.int .i64 b0) := HU.out.b.cell 0
            have t1 : U.cell? ⟨nb, 1, none⟩ = some (.int .i64 b1) := HU.out.b.cell 1
            have t2 : U.cell? ⟨nb, 2, none⟩ = some (.int .i64 b2) := HU.out.b.cell 2
            have t3 : U.cell? ⟨nb, 3, none⟩ = some (.int .i64 b3) := HU.out.b.cell 3
            have t4 : U.cell? ⟨nb, 4, none⟩ = some (.slice D k c2) := by rw [← HK.out]; exact HU.out.b.cell 4
            have HRB := Lib.hid HU.out.s.rb
            have r0 : U.cell? ⟨w.heap.size, 0, none⟩ = some (.int .i64 0) := HRB.out.cell 0
            have fr0 := HRB.out.frozen 0
            have r1 : U.cell? ⟨w.heap.size, 1, none⟩ = some (.int .i64 0) := HRB.out.cell 1
            have fr1 := HRB.out.frozen 1
            have r2 : U.cell? ⟨w.heap.size, 2, none⟩ = some (.int .i64 0) := HRB.out.cell 2
            have fr2 := HRB.out.frozen 2
            have r3 : U.cell? ⟨w.heap.size, 3, none⟩ = some (.int .i64 0) := HRB.out.cell 3
            have fr3 := HRB.out.frozen 3
            have r4 : U.cell? ⟨w.heap.size, 4, none⟩ = some (.slice none 0 0) := HRB.out.cell 4
            have fr4 := HRB.out.frozen 4
            cases ok with
            | false =>
              have HR := Lib.hid (HSB.out (by rw [HU.out.r.no rfl]; rfl))
              go_wp2
              have hp := put5_ok (d0 := 0) (d1 := 0) (d2 := 0) (d3 := 0) (D := none) (m' := 0) (c' := 0) HU.out.s.rb (⟨0, 0, 0, 0, [], none, 0⟩ : Cv)
              refine bodyPost_ret (v := .tuple #[.agg cz5, .int .i64 91, .int .i64 (nn : Int)]) ?_ rfl ⟨hp.low _ _ (Nat.le_refl _) HU.out.s.l, .inr ⟨HS9.out, .inl ⟨nn, HPC.out.trans HR.out, rfl⟩⟩⟩
              have q0 := hp.b.cell 0; have q1 := hp.b.cell 1; have q2 := hp.b.cell 2; have q3 := hp.b.cell 3; have q4 := hp.b.cell 4
              unfold put5 at q0 q1 q2 q3 q4
              simp [results, Tryz.f8, go_sem, q0, q1, q2, q3, q4]
            | true =>
              obtain ⟨hry, hwy⟩ := HU.out.r.yes rfl
              have HRY := Lib.hid hry
              have HWY := Lib.hid hwy
              clear hry hwy
              have HRG := Lib.hid (rfright_ok ⟨b0, b1, b2, b3, us, D, c2⟩ U HRY.out)
              simp only [ccs, HK.out] at HRG
              obtain ⟨g, hg⟩ : ∃ g, cfgB (Cv.cg ⟨b0, b1, b2, b3, us, D, c2⟩) = g := ⟨_, rfl⟩
              rw [hg] at HRG
              have HG := Lib.hid hg
              clear hg
              cases g with
              | false =>
                have HR := Lib.hid (HSB.out (by rw [HWY.out]; unfold okC; simp [HG.out]))
                clear r0 fr0 r1 fr1 r2 fr2 r3 fr3 r4 fr4
                go_wp2_with (go_at_call 14; (with_reducible refine HRG.out.mono ?_); rintro e u5 ⟨rfl, hb5⟩; have HS5 := Lib.hid (HU.out.s.on hb5); have HRY5 := Lib.hid (HRY.out.on hb5); have HNB5 := Lib.hid (HU.out.b.below hb5 HU.out.b.lt); clear hb5; have r0 : u5.cell? ⟨w.heap.size, 0, none⟩ = some (.int .i64 0) := HS5.out.rb.cell 0; have fr0 := HS5.out.rb.frozen 0; have r1 : u5.cell? ⟨w.heap.size, 1, none⟩ = some (.int .i64 0) := HS5.out.rb.cell 1; have fr1 := HS5.out.rb.frozen 1; have r2 : u5.cell? ⟨w.heap.size, 2, none⟩ = some (.int .i64 0) := HS5.out.rb.cell 2; have fr2 := HS5.out.rb.frozen 2; have r3 : u5.cell? ⟨w.heap.size, 3, none⟩ = some (.int .i64 0) := HS5.out.rb.cell 3; have fr3 := HS5.out.rb.frozen 3; have r4 : u5.cell? ⟨w.heap.size, 4, none⟩ = some (.slice none 0 0) := HS5.out.rb.cell 4; have fr4 := HS5.out.rb.frozen 4)
                have hp := put5_ok (d0 := 0) (d1 := 0) (d2 := 0) (d3 := 0) (D := none) (m' := 0) (c' := 0) HS5.out.rb (⟨0, 0, 0, 0, [], none, 0⟩ : Cv)
                refine bodyPost_ret (v := .tuple #[.agg cz5, .int .i64 91, .int .i64 (nn : Int)]) ?_ rfl ⟨hp.low _ _ (Nat.le_refl _) HS5.out.l, .inr ⟨HS9.out, .inl ⟨nn, HPC.out.trans HR.out, rfl⟩⟩⟩
                have q0 := hp.b.cell 0; have q1 := hp.b.cell 1; have q2 := hp.b.cell 2; have q3 := hp.b.cell 3; have q4 := hp.b.cell 4
                unfold put5 at q0 q1 q2 q3 q4
                simp [results, Tryz.f8, go_sem, q0, q1, q2, q3, q4]
              | true =>
                clear r0 fr0 r1 fr1 r2 fr2 r3 fr3 r4 fr4
                have hn3 : wrap64 ((nn : Int) + 1) = (nn : Int) + 1 := by unfold wrap64; omega
                go_wp2_with (go_at_call 14; (with_reducible refine HRG.out.mono ?_); rintro e u5 ⟨rfl, hb5⟩; have HS5 := Lib.hid (HU.out.s.on hb5); have HRY5 := Lib.hid (HRY.out.on hb5); have HNB5 := Lib.hid (HU.out.b.below hb5 HU.out.b.lt); clear hb5; have y0 : u5.cell? ⟨nb, 0, none⟩ = some (.int .i64 b0) := HNB5.out.cell 0; have y1 : u5.cell? ⟨nb, 1, none⟩ = some (.int .i64 b1) := HNB5.out.cell 1; have y2 : u5.cell? ⟨nb, 2, none⟩ = some (.int .i64 b2) := HNB5.out.cell 2; have y3 : u5.cell? ⟨nb, 3, none⟩ = some (.int .i64 b3) := HNB5.out.cell 3; have y4 : u5.cell? ⟨nb, 4, none⟩ = some (.slice D k c2) := (by rw [← HK.out]; exact HNB5.out.cell 4); have p0 : u5.cell? ⟨w.heap.size + 1, 0, none⟩ = some (.int .i64 a0) := HS5.out.cb.cell 0; have fp0 := HS5.out.cb.frozen 0; have p1 : u5.cell? ⟨w.heap.size + 1, 1, none⟩ = some (.int .i64 a1) := HS5.out.cb.cell 1; have fp1 := HS5.out.cb.frozen 1; have p2 : u5.cell? ⟨w.heap.size + 1, 2, none⟩ = some (.int .i64 a2) := HS5.out.cb.cell 2; have fp2 := HS5.out.cb.frozen 2; have p3 : u5.cell? ⟨w.heap.size + 1, 3, none⟩ = some (.int .i64 a3) := HS5.out.cb.cell 3; have fp3 := HS5.out.cb.frozen 3; have p4 : u5.cell? ⟨w.heap.size + 1, 4, none⟩ = some (.slice A m c1) := (by rw [← HM.out]; exact HS5.out.cb.cell 4); have fp4 := HS5.out.cb.frozen 4)
                have hcb := HS5.out.cb
                simp only [ccs, HM.out] at hcb
                have hp := put5_ok (d0 := b0) (d1 := b1) (d2 := b2) (d3 := b3) (D := D) (m' := k) (c' := c2) hcb (⟨0, 0, 0, 0, [], none, 0⟩ : Cv)
                have hp2 : Pt u5 (w.heap.size + 1) (⟨0, 0, 0, 0, [], none, 0⟩ : Cv) (ccs ⟨b0, b1, b2, b3, us, D, c2⟩) (put5 u5 (w.heap.size + 1) b0 b1 b2 b3 (.slice D k c2)) := by simp only [ccs, HK.out]; exact hp
                have HSN := Lib.hid (HS5.out.next HRY5.out hp2)
                unfold put5 at HSN
                clear hp hp2 hcb
                go_roundw
                case rel => exact ⟨⟨b0, b1, b2, b3, us, D, c2⟩, nn + 1, i + 1, i + 1, Nat.le_refl _, by omega, by omega, by go_num, by go_num, by go_num, Lib.hid (few_of HG.out), Lib.hid (HSP.out _ HWY.out HG.out), HSN⟩
                case measure => simp [intOf]; omega
        · rw [if_pos (by kernel_rfl)]
          go_simp
          have hs3' := (HD0.out).on ((Below.refl _ _).alloc (Nat.le_refl _) (.cells #[.int .i64 0, .int .i64 0, .int .i64 0, .int .i64 0, .slice none 0 0] 24))
          have hnb := Bk.new d0 24 #[.int .i64 0, .int .i64 0, .int .i64 0, .int .i64 0, .slice none 0 0]
          have hnl : w.heap.size + 2 ≤ d0.heap.size := (HD0.out).size
          refine hK.out _ _ hs3' (fun hHeld => ?_)
          try simp only [lay]
          refine wpAnyH_ready (rs := [7]) (by kernel_rfl) (by simp) (AllReadyH.cons rfl (fun K hK => ?_) AllReadyH.nil)
          rw [if_pos (by kernel_rfl)]
          go_simp
          refine (HWD.out _).mono ?_
          rintro e d1 ⟨Aw, cw, rfl, how, hb1⟩
          try dsimp only
          have hs1' := (hs3').on hb1
          have hnb1 := hnb.below hb1 hnb.lt
          refine hK.out _ _ hs1' (fun hHeld => ?_)
          try simp only [lay]
          refine wpAnyH_ready (rs := [8]) (by kernel_rfl) (by simp) (AllReadyH.cons rfl (fun K hK => ?_) AllReadyH.nil)
          rw [if_pos (by kernel_rfl)]
          go_simp
          refine (HWI.out _ _ _ _ (hs1') (how)).mono ?_
          rintro e d2 hwi
          obtain ⟨ok, y, rfl, hwr, hb2⟩ := wr_of hwi
          clear hwi
          try dsimp only
          have hs2' := (hs1').on hb2
          have hnb2 := hnb1.below hb2 hnb1.lt
          refine hK.out _ _ hs2' (fun hHeld => ?_)
          try simp only [lay]
          refine tk (some 25) 9 (v := ?_) rfl rfl ?_ hHeld ?_
          rotate_left
          · intro wz hSw; go_simp; try (with_reducible rfl)
          try simp only [lay]
          refine tk (some 35) 10 (v := ?_) rfl rfl ?_ hHeld ?_
          rotate_left
          · intro wz hSw; go_simp; try (with_reducible rfl)
          try simp only [lay]
          refine tk (some 36) 11 (v := ?_) rfl rfl ?_ hHeld ?_
          rotate_left
          · intro wz hSw; go_simp; try (with_reducible rfl)
          try simp only [lay]
          refine gen_hE (fun u => Pst w ⟨a0, a1, a2, a3, ts, A, c1⟩ u ∧ Bk u d0.heap.size 24 #[.int .i64 0, .int .i64 0, .int .i64 0, .int .i64 0, .slice none 0 0] ∧ Wr ⟨a0, a1, a2, a3, ts, A, c1⟩ q ps ok y u) ⟨hs2', hnb2, hwr⟩ (fun uu huu => ?_)
          have HSU := Lib.hid huu.1
          have HNB := Lib.hid huu.2.1
          have HWU := Lib.hid huu.2.2
          have HNL := Lib.hid hnl
          obtain ⟨nb, hnbe⟩ : ∃ g, d0.heap.size = g := ⟨_, rfl⟩
          rw [hnbe] at HNB HNL ⊢
          clear hnbe huu hnl hHeld
          obtain ⟨b0, b1, b2, b3, us, D, c2⟩ := y
          obtain ⟨k, hk⟩ : ∃ k, us.length = k := ⟨_, rfl⟩
          have HK := Lib.hid hk
          try simp only [ccs, hk]
          clear hk
          have z0 : uu.cell? ⟨nb, 0, none⟩ = some (.int .i64 0) := HNB.out.cell 0
          have fz0 := HNB.out.frozen 0
          have z1 : uu.cell? ⟨nb, 1, none⟩ = some (.int .i64 0) := HNB.out.cell 1
          have fz1 := HNB.out.frozen 1
          have z2 : uu.cell? ⟨nb, 2, none⟩ = some (.int .i64 0) := HNB.out.cell 2
          have fz2 := HNB.out.frozen 2
          have z3 : uu.cell? ⟨nb, 3, none⟩ = some (.int .i64 0) := HNB.out.cell 3
          have fz3 := HNB.out.frozen 3
          have z4 : uu.cell? ⟨nb, 4, none⟩ = some (.slice none 0 0) := HNB.out.cell 4
          have fz4 := HNB.out.frozen 4
          have hpt := put5_ok (d0 := b0) (d1 := b1) (d2 := b2) (d3 := b3) (D := D) (m' := k) (c' := c2) HNB.out (⟨0, 0, 0, 0, [], none, 0⟩ : Cv)
          unfold put5 at hpt
          refine wpAnyH_ready (rs := [13]) (by kernel_rfl) (by simp) (AllReadyH.cons rfl (fun K hK => ?_) AllReadyH.nil)
          rw [if_pos (by kernel_rfl)]
          go_simp
          refine hK.out _ _ (HSU.out.put hpt HNL.out) (fun hHeld => ?_)
          try simp only [lay]
          refine tk (some 10) 14 (v := ?_) rfl rfl ?_ hHeld ?_
          rotate_left
          · intro wz hSw; go_simp; try (with_reducible rfl)
          try simp only [lay]
          refine wpAnyH_done (by kernel_rfl) ?_ _
          refine gen_qE (fun u => Lnd w ⟨a0, a1, a2, a3, ts, A, c1⟩ q ps ok ⟨b0, b1, b2, b3, us, D, c2⟩ nb u) ⟨by have := hpt.b; simp only [ccs, HK.out]; exact this, HSU.out.put hpt HNL.out, HWU.out.put hpt⟩ (fun U hU => ?_)
          clear hpt hHeld z0 fz0 z1 fz1 z2 fz2 z3 fz3 z4 fz4
          have HU := Lib.hid hU
          clear hU
          have t0 : U.cell? ⟨nb, 0, none⟩ = some (.int .i64 b0) := HU.out.b.cell 0
          have t1 : U.cell? ⟨nb, 1, none⟩ = some (.int .i64 b1) := HU.out.b.cell 1
          have t2 : U.cell? ⟨nb, 2, none⟩ = some (.int .i64 b2) := HU.out.b.cell 2
          have t3 : U.cell? ⟨nb, 3, none⟩ = some (.int .i64 b3) := HU.out.b.cell 3
          have t4 : U.cell? ⟨nb, 4, none⟩ = some (.slice D k c2) := by rw [← HK.out]; exact HU.out.b.cell 4
          have HRB := Lib.hid HU.out.s.rb
          have r0 : U.cell? ⟨w.heap.size, 0, none⟩ = some (.int .i64 0) := HRB.out.cell 0
          have fr0 := HRB.out.frozen 0
          have r1 : U.cell? ⟨w.heap.size, 1, none⟩ = some (.int .i64 0) := HRB.out.cell 1
          have fr1 := HRB.out.frozen 1
          have r2 : U.cell? ⟨w.heap.size, 2, none⟩ = some (.int .i64 0) := HRB.out.cell 2
          have fr2 := HRB.out.frozen 2
          have r3 : U.cell? ⟨w.heap.size, 3, none⟩ = some (.int .i64 0) := HRB.out.cell 3
          have fr3 := HRB.out.frozen 3
          have r4 : U.cell? ⟨w.heap.size, 4, none⟩ = some (.slice none 0 0) := HRB.out.cell 4
          have fr4 := HRB.out.frozen 4
          cases ok with
          | false =>
            have HR := Lib.hid (HSB.out (by rw [HU.out.r.no rfl]; rfl))
            go_wp2
            have hp := put5_ok (d0 := 0) (d1 := 0) (d2 := 0) (d3 := 0) (D := none) (m' := 0) (c' := 0) HU.out.s.rb (⟨0, 0, 0, 0, [], none, 0⟩ : Cv)
            refine bodyPost_ret (v := .tuple #[.agg cz5, .int .i64 91, .int .i64 (nn : Int)]) ?_ rfl ⟨hp.low _ _ (Nat.le_refl _) HU.out.s.l, .inr ⟨HS9.out, .inl ⟨nn, HPC.out.trans HR.out, rfl⟩⟩⟩
            have q0 := hp.b.cell 0; have q1 := hp.b.cell 1; have q2 := hp.b.cell 2; have q3 := hp.b.cell 3; have q4 := hp.b.cell 4
            unfold put5 at q0 q1 q2 q3 q4
            simp [results, Tryz.f8, go_sem, q0, q1, q2, q3, q4]
          | true =>
            obtain ⟨hry, hwy⟩ := HU.out.r.yes rfl
            have HRY := Lib.hid hry
            have HWY := Lib.hid hwy
            clear hry hwy
            have HRG := Lib.hid (rfright_ok ⟨b0, b1, b2, b3, us, D, c2⟩ U HRY.out)
            simp only [ccs, HK.out] at HRG
            obtain ⟨g, hg⟩ : ∃ g, cfgB (Cv.cg ⟨b0, b1, b2, b3, us, D, c2⟩) = g := ⟨_, rfl⟩
            rw [hg] at HRG
            have HG := Lib.hid hg
            clear hg
            cases g with
            | false =>
              have HR := Lib.hid (HSB.out (by rw [HWY.out]; unfold okC; simp [HG.out]))
              clear r0 fr0 r1 fr1 r2 fr2 r3 fr3 r4 fr4
              go_wp2_with (go_at_call 14; (with_reducible refine HRG.out.mono ?_); rintro e u5 ⟨rfl, hb5⟩; have HS5 := Lib.hid (HU.out.s.on hb5); have HRY5 := Lib.hid (HRY.out.on hb5); have HNB5 := Lib.hid (HU.out.b.below hb5 HU.out.b.lt); clear hb5; have r0 : u5.cell? ⟨w.heap.size, 0, none⟩ = some (.int .i64 0) := HS5.out.rb.cell 0; have fr0 := HS5.out.rb.frozen 0; have r1 : u5.cell? ⟨w.heap.size, 1, none⟩ = some (.int .i64 0) := HS5.out.rb.cell 1; have fr1 := HS5.out.rb.frozen 1; have r2 : u5.cell? ⟨w.heap.size, 2, none⟩ = some (.int .i64 0) := HS5.out.rb.cell 2; have fr2 := HS5.out.rb.frozen 2; have r3 : u5.cell? ⟨w.heap.size, 3, none⟩ = some (.int .i64 0) := HS5.out.rb.cell 3; have fr3 := HS5.out.rb.frozen 3; have r4 : u5.cell? ⟨w.heap.size, 4, none⟩ = some (.slice none 0 0) := HS5.out.rb.cell 4; have fr4 := HS5.out.rb.frozen 4)
              have hp := put5_ok (d0 := 0) (d1 := 0) (d2 := 0) (d3 := 0) (D := none) (m' := 0) (c' := 0) HS5.out.rb (⟨0, 0, 0, 0, [], none, 0⟩ : Cv)
              refine bodyPost_ret (v := .tuple #[.agg cz5, .int .i64 91, .int .i64 (nn : Int)]) ?_ rfl ⟨hp.low _ _ (Nat.le_refl _) HS5.out.l, .inr ⟨HS9.out, .inl ⟨nn, HPC.out.trans HR.out, rfl⟩⟩⟩
              have q0 := hp.b.cell 0; have q1 := hp.b.cell 1; have q2 := hp.b.cell 2; have q3 := hp.b.cell 3; have q4 := hp.b.cell 4
              unfold put5 at q0 q1 q2 q3 q4
              simp [results, Tryz.f8, go_sem, q0, q1, q2, q3, q4]
            | true =>
              clear r0 fr0 r1 fr1 r2 fr2 r3 fr3 r4 fr4
              have hn3 : wrap64 ((nn : Int) + 1) = (nn : Int) + 1 := by unfold wrap64; omega
              go_wp2_with (go_at_call 14; (with_reducible refine HRG.out.mono ?_); rintro e u5 ⟨rfl, hb5⟩; have HS5 := Lib.hid (HU.out.s.on hb5); have HRY5 := Lib.hid (HRY.out.on hb5); have HNB5 := Lib.hid (HU.out.b.below hb5 HU.out.b.lt); clear hb5; have y0 : u5.cell? ⟨nb, 0, none⟩ = some (.int .i64 b0) := HNB5.out.cell 0; have y1 : u5.cell? ⟨nb, 1, none⟩ = some (.int .i64 b1) := HNB5.out.cell 1; have y2 : u5.cell? ⟨nb, 2, none⟩ = some (.int .i64 b2) := HNB5.out.cell 2; have y3 : u5.cell? ⟨nb, 3, none⟩ = some (.int .i64 b3) := HNB5.out.cell 3; have y4 : u5.cell? ⟨nb, 4, none⟩ = some (.slice D k c2) := (by rw [← HK.out]; exact HNB5.out.cell 4); have p0 : u5.cell? ⟨w.heap.size + 1, 0, none⟩ = some (.int .i64 a0) := HS5.out.cb.cell 0; have fp0 := HS5.out.cb.frozen 0; have p1 : u5.cell? ⟨w.heap.size + 1, 1, none⟩ = some (.int .i64 a1) := HS5.out.cb.cell 1; have fp1 := HS5.out.cb.frozen 1; have p2 : u5.cell? ⟨w.heap.size + 1, 2, none⟩ = some (.int .i64 a2) := HS5.out.cb.cell 2; have fp2 := HS5.out.cb.frozen 2; have p3 : u5.cell? ⟨w.heap.size + 1, 3, none⟩ = some (.int .i64 a3) := HS5.out.cb.cell 3; have fp3 := HS5.out.cb.frozen 3; have p4 : u5.cell? ⟨w.heap.size + 1, 4, none⟩ = some (.slice A m c1) := (by rw [← HM.out]; exact HS5.out.cb.cell 4); have fp4 := HS5.out.cb.frozen 4)
              have hcb := HS5.out.cb
              simp only [ccs, HM.out] at hcb
              have hp := put5_ok (d0 := b0) (d1 := b1) (d2 := b2) (d3 := b3) (D := D) (m' := k) (c' := c2) hcb (⟨0, 0, 0, 0, [], none, 0⟩ : Cv)
              have hp2 : Pt u5 (w.heap.size + 1) (⟨0, 0, 0, 0, [], none, 0⟩ : Cv) (ccs ⟨b0, b1, b2, b3, us, D, c2⟩) (put5 u5 (w.heap.size + 1) b0 b1 b2 b3 (.slice D k c2)) := by simp only [ccs, HK.out]; exact hp
              have HSN := Lib.hid (HS5.out.next HRY5.out hp2)
              unfold put5 at HSN
              clear hp hp2 hcb
              go_roundw
              case rel => exact ⟨⟨b0, b1, b2, b3, us, D, c2⟩, nn + 1, i + 1, i + 1, Nat.le_refl _, by omega, by omega, by go_num, by go_num, by go_num, Lib.hid (few_of HG.out), Lib.hid (HSP.out _ HWY.out HG.out), HSN⟩
              case measure => simp [intOf]; omega
    · have hni6 : i = n := by omega
      subst hni6
      have hi3 : ¬ (i : Int) < (i : Int) := by omega
      by_cases hf : f < i
      · have hf1 : (f : Int) < (i : Int) := by omega
        have HR := Lib.hid (HPS.out.end_bad' HSL.out (.inl hf))
        have HRB := Lib.hid HST.out.rb
        have r0 : wr.cell? ⟨w.heap.size, 0, none⟩ = some (.int .i64 0) := HRB.out.cell 0
        have fr0 := HRB.out.frozen 0
        have r1 : wr.cell? ⟨w.heap.size, 1, none⟩ = some (.int .i64 0) := HRB.out.cell 1
        have fr1 := HRB.out.frozen 1
        have r2 : wr.cell? ⟨w.heap.size, 2, none⟩ = some (.int .i64 0) := HRB.out.cell 2
        have fr2 := HRB.out.frozen 2
        have r3 : wr.cell? ⟨w.heap.size, 3, none⟩ = some (.int .i64 0) := HRB.out.cell 3
        have fr3 := HRB.out.frozen 3
        have r4 : wr.cell? ⟨w.heap.size, 4, none⟩ = some (.slice none 0 0) := HRB.out.cell 4
        have fr4 := HRB.out.frozen 4
        go_wp2
        have hp := put5_ok (d0 := 0) (d1 := 0) (d2 := 0) (d3 := 0) (D := none) (m' := 0) (c' := 0) HRB.out (⟨0, 0, 0, 0, [], none, 0⟩ : Cv)
        refine bodyPost_ret (v := .tuple #[.agg cz5, .int .i64 91, .int .i64 (nn : Int)]) ?_ rfl ⟨hp.low _ _ (Nat.le_refl _) HST.out.l, .inr ⟨HS9.out, .inl ⟨nn, HPC.out.trans HR.out, rfl⟩⟩⟩
        have q0 := hp.b.cell 0; have q1 := hp.b.cell 1; have q2 := hp.b.cell 2; have q3 := hp.b.cell 3; have q4 := hp.b.cell 4
        unfold put5 at q0 q1 q2 q3 q4
        simp [results, Tryz.f8, go_sem, q0, q1, q2, q3, q4]
      · have hfe : f = i := by omega
        subst hfe
        by_cases h0 : nn = 0
        · subst h0
          have HR := Lib.hid (HPS.out.end_bad' HSL.out (.inr rfl))
          have HRB := Lib.hid HST.out.rb
          have r0 : wr.cell? ⟨w.heap.size, 0, none⟩ = some (.int .i64 0) := HRB.out.cell 0
          have fr0 := HRB.out.frozen 0
          have r1 : wr.cell? ⟨w.heap.size, 1, none⟩ = some (.int .i64 0) := HRB.out.cell 1
          have fr1 := HRB.out.frozen 1
          have r2 : wr.cell? ⟨w.heap.size, 2, none⟩ = some (.int .i64 0) := HRB.out.cell 2
          have fr2 := HRB.out.frozen 2
          have r3 : wr.cell? ⟨w.heap.size, 3, none⟩ = some (.int .i64 0) := HRB.out.cell 3
          have fr3 := HRB.out.frozen 3
          have r4 : wr.cell? ⟨w.heap.size, 4, none⟩ = some (.slice none 0 0) := HRB.out.cell 4
          have fr4 := HRB.out.frozen 4
          go_wp2
          have hp := put5_ok (d0 := 0) (d1 := 0) (d2 := 0) (d3 := 0) (D := none) (m' := 0) (c' := 0) HRB.out (⟨0, 0, 0, 0, [], none, 0⟩ : Cv)
          refine bodyPost_ret (v := .tuple #[.agg cz5, .int .i64 91, .int .i64 (0 : Int)]) ?_ rfl ⟨hp.low _ _ (Nat.le_refl _) HST.out.l, .inr ⟨HS9.out, .inl ⟨0, HPC.out.trans HR.out, rfl⟩⟩⟩
          have q0 := hp.b.cell 0; have q1 := hp.b.cell 1; have q2 := hp.b.cell 2; have q3 := hp.b.cell 3; have q4 := hp.b.cell 4
          unfold put5 at q0 q1 q2 q3 q4
          simp [results, Tryz.f8, go_sem, q0, q1, q2, q3, q4]
        · have hn0 : ((nn : Int) == 0) = false := by rw [beq_eq_false_iff_ne]; omega
          have HR := Lib.hid (HPS.out.end_ok' HSL.out h0)
          have HST1 := Lib.hid HST.out
          obtain ⟨a0, a1, a2, a3, ts, A, c1⟩ := x
          have kc := HST.out.cb
          have d0 : wr.cell? ⟨w.heap.size + 1, 0, none⟩ = some (.int .i64 a0) := kc.cell 0
          have d1 : wr.cell? ⟨w.heap.size + 1, 1, none⟩ = some (.int .i64 a1) := kc.cell 1
          have d2 : wr.cell? ⟨w.heap.size + 1, 2, none⟩ = some (.int .i64 a2) := kc.cell 2
          have d3 : wr.cell? ⟨w.heap.size + 1, 3, none⟩ = some (.int .i64 a3) := kc.cell 3
          obtain ⟨m, hm⟩ : ∃ m, ts.length = m := ⟨_, rfl⟩
          have HM := Lib.hid hm
          have d4 : wr.cell? ⟨w.heap.size + 1, 4, none⟩ = some (.slice A m c1) := by rw [← hm]; exact kc.cell 4
          clear kc hm
          have HRB := Lib.hid HST.out.rb
          have r0 : wr.cell? ⟨w.heap.size, 0, none⟩ = some (.int .i64 0) := HRB.out.cell 0
          have fr0 := HRB.out.frozen 0
          have r1 : wr.cell? ⟨w.heap.size, 1, none⟩ = some (.int .i64 0) := HRB.out.cell 1
          have fr1 := HRB.out.frozen 1
          have r2 : wr.cell? ⟨w.heap.size, 2, none⟩ = some (.int .i64 0) := HRB.out.cell 2
          have fr2 := HRB.out.frozen 2
          have r3 : wr.cell? ⟨w.heap.size, 3, none⟩ = some (.int .i64 0) := HRB.out.cell 3
          have fr3 := HRB.out.frozen 3
          have r4 : wr.cell? ⟨w.heap.size, 4, none⟩ = some (.slice none 0 0) := HRB.out.cell 4
          have fr4 := HRB.out.frozen 4
          go_wp2
          have hp := put5_ok (d0 := a0) (d1 := a1) (d2 := a2) (d3 := a3) (D := A) (m' := m) (c' := c1) HST.out.rb (⟨0, 0, 0, 0, [], none, 0⟩ : Cv)
          refine bodyPost_ret (v := .tuple #[.agg #[.int .i64 a0, .int .i64 a1, .int .i64 a2, .int .i64 a3, .slice A m c1], .int .i64 0, .int .i64 0]) ?_ rfl ⟨hp.low _ _ (Nat.le_refl _) HST.out.l, .inr ⟨HS9.out, .inr ⟨⟨a0, a1, a2, a3, ts, A, c1⟩, HPC.out.trans HR.out, hp.rc _ HST.out.rc, by simp only [ccs, HM.out]⟩⟩⟩
          have q0 := hp.b.cell 0; have q1 := hp.b.cell 1; have q2 := hp.b.cell 2; have q3 := hp.b.cell 3; have q4 := hp.b.cell 4
          unfold put5 at q0 q1 q2 q3 q4
          simp [results, Tryz.f8, go_sem, q0, q1, q2, q3, q4]
theorem rparseC_ok (s : ByteArray) (w : World) : Calls Tryz.prog 8 #[.string s] w (PaE s w) := by
  by_cases hs : 4096 < s.size
  · exact rparse_big s w hs
  · have e : s = bs s.data.toList := (bs_of s).symm
    rw [e]
    refine rparse_small _ w ?_
    have : s.data.toList.length = s.size := rfl
    omega
end Go.Proofs.YtekobdmlgbffnaaGreatDoor
