/- config: slices.Clone, Find, Token: their contracts. (Written by gen_cg5.py.) -/
import Derived.Test.YtekobdmlgbffnaaGreatDoorCg4
namespace Go.Proofs.YtekobdmlgbffnaaGreatDoor
set_option linter.unusedVariables false
set_option maxRecDepth 100000
set_option linter.unusedSimpArgs false
open Go.RowKit

set_option maxRecDepth 100000 in
set_option maxHeartbeats 2000000 in
theorem cloneN_ok (A : Option Addr) (l : List Nt) (n c : Nat) (w : World) (h : RN w A l) (hf : Fit A n c) (hn : l.length = n) (hlen : n ≤ 1099511627776) :
    Calls Tryz.prog 40 #[.slice A n c] w fun e w' => ∃ A2 c2, e = .returned (.slice A2 n c2) ∧ ON w' w.heap.size A2 c2 l ∧ Below w.heap.size w w' := by
  have HR := Lib.hid h
  have HF := Lib.hid hf
  have HN := Lib.hid hn
  cases A with
  | none =>
    obtain ⟨rfl, rfl⟩ := hf.nil_ rfl
    clear h hf hn
    have he := Lib.run_eql_slice_nil (P := Tryz.prog) w 30 85 none 0 0 0 0 Tryz.underlying30
    simp only [Option.isNone_none] at he
    go_enter Tryz.func40, Tryz.ntmps40
    go_wp2
    go_ret
    obtain rfl : l = [] := List.eq_nil_of_length_eq_zero HN.out
    exact ⟨none, 0, rfl, Ow.nil _ _, Below.refl _ _⟩
  | some ad =>
    have HOW := Lib.hid (Ow.empty (e := 85) (k := 2) (f := ncs) w w.heap.size (Nat.le_refl _))
    have HR2 := Lib.hid (Rw.on h ((Below.refl w.heap.size w).alloc (Nat.le_refl _) (.cells #[] 85)))
    clear h hf hn
    have he := Lib.run_eql_slice_nil (P := Tryz.prog) w 30 85 (some ad) n c 0 0 Tryz.underlying30
    simp only [Option.isNone_some] at he
    go_enter Tryz.func40, Tryz.ntmps40
    go_wp2_with (at_builtin; refine wp_rows0 roN rfl (.tmp 5) (.tmp 6) rfl 0 rfl rfl HOW.out l _ n c rfl HN.out (fun h => by cases h) HR2.out (by omega) (by rw [World.size_alloc]; omega) n (by omega) ?_; intro A2 c2 w2 ho hg hb)
    go_ret
    exact ⟨A2, c2, rfl, ho, ((Below.refl w.heap.size w).alloc (Nat.le_refl _) _).trans hb⟩

set_option maxRecDepth 100000 in
set_option maxHeartbeats 2000000 in
theorem cloneK_ok (A : Option Addr) (l : List Tk) (n c : Nat) (w : World) (h : RK w A l) (hf : Fit A n c) (hn : l.length = n) (hlen : n ≤ 1099511627776) :
    Calls Tryz.prog 41 #[.slice A n c] w fun e w' => ∃ A2 c2, e = .returned (.slice A2 n c2) ∧ OK w' w.heap.size A2 c2 l ∧ Below w.heap.size w w' := by
  have HR := Lib.hid h
  have HF := Lib.hid hf
  have HN := Lib.hid hn
  cases A with
  | none =>
    obtain ⟨rfl, rfl⟩ := hf.nil_ rfl
    clear h hf hn
    have he := Lib.run_eql_slice_nil (P := Tryz.prog) w 31 37 none 0 0 0 0 Tryz.underlying31
    simp only [Option.isNone_none] at he
    go_enter Tryz.func41, Tryz.ntmps41
    go_wp2
    go_ret
    obtain rfl : l = [] := List.eq_nil_of_length_eq_zero HN.out
    exact ⟨none, 0, rfl, Ow.nil _ _, Below.refl _ _⟩
  | some ad =>
    have HOW := Lib.hid (Ow.empty (e := 37) (k := 3) (f := kcs) w w.heap.size (Nat.le_refl _))
    have HR2 := Lib.hid (Rw.on h ((Below.refl w.heap.size w).alloc (Nat.le_refl _) (.cells #[] 37)))
    clear h hf hn
    have he := Lib.run_eql_slice_nil (P := Tryz.prog) w 31 37 (some ad) n c 0 0 Tryz.underlying31
    simp only [Option.isNone_some] at he
    go_enter Tryz.func41, Tryz.ntmps41
    go_wp2_with (at_builtin; refine wp_rows0 roK rfl (.tmp 5) (.tmp 6) rfl 0 rfl rfl HOW.out l _ n c rfl HN.out (fun h => by cases h) HR2.out (by omega) (by rw [World.size_alloc]; omega) n (by omega) ?_; intro A2 c2 w2 ho hg hb)
    go_ret
    exact ⟨A2, c2, rfl, ho, ((Below.refl w.heap.size w).alloc (Nat.le_refl _) _).trans hb⟩

set_option maxRecDepth 100000 in
set_option maxHeartbeats 2000000 in
theorem token_ok (x : Tv) (s : ByteArray) (w : World) (h : RT1 w x) :
    Calls Tryz.prog 11 #[.agg (tcs x), .string s] w fun e w' => e = .returned (.tuple #[.agg (kcs ((fK s x.t.toks).getD zeroTk)), .bool (fK s x.t.toks).isSome]) ∧ Below w.heap.size w w' := by
  obtain ⟨⟨nm, a, b, nl, kl⟩, An, cn, Ak, ck⟩ := x
  show Calls Tryz.prog 11 #[.agg #[.string nm, .int .i64 a, .int .i64 b, .slice An nl.length cn, .slice Ak kl.length ck], .string s] w _
  have g1 := h.fk.cap
  have g2 := h.fk.max
  dsimp only at g1 g2
  obtain ⟨n, hn⟩ : ∃ n, nl.length = n := ⟨_, rfl⟩
  obtain ⟨m, hm⟩ : ∃ m, kl.length = m := ⟨_, rfl⟩
  obtain ⟨R, hR⟩ : ∃ R, fK s kl = R := ⟨_, rfl⟩
  have HF := Lib.hid (fun u (hu : Below w.heap.size w u) => findK_ok Ak kl m ck s u (h.k.on hu) hm (by omega))
  rw [hR] at HF ⊢
  have HB0 := Lib.hid ((Bx.new w 33 #[.string nm, .int .i64 a, .int .i64 b, .slice An n cn, .slice Ak m ck]).alloc (.cells #[.string ⟨#[]⟩, .string ⟨#[]⟩, .int .i64 0] 37))
  have HB1 := Lib.hid (Bk.new (w.alloc (.cells #[.string nm, .int .i64 a, .int .i64 b, .slice An n cn, .slice Ak m ck] 33)) 37 #[.string ⟨#[]⟩, .string ⟨#[]⟩, .int .i64 0])
  rw [World.size_alloc] at HB1
  rw [hn, hm]
  clear h hn hm hR g1
  obtain ⟨⟨xn, xs, xu⟩, hx⟩ : ∃ y, R.getD zeroTk = y := ⟨_, rfl⟩
  rw [hx] at HF ⊢
  clear hx
  obtain ⟨is, his⟩ : ∃ is, R.isSome = is := ⟨_, rfl⟩
  rw [his] at HF ⊢
  clear his
  have h40 : (w.alloc (.cells #[.string nm, .int .i64 a, .int .i64 b, .slice An n cn, .slice Ak m ck] 33)).alloc (.cells #[.string ⟨#[]⟩, .string ⟨#[]⟩, .int .i64 0] 37) = (w.alloc (.cells #[.string nm, .int .i64 a, .int .i64 b, .slice An n cn, .slice Ak m ck] 33)).alloc (.cells #[.string ⟨#[]⟩, .string ⟨#[]⟩, .int .i64 0] 37) := rfl
  clear h40
  go_enter Tryz.func11, Tryz.ntmps11
  go_wp2_with (go_at_call 42; refine (HF.out _ HB0.out.l).mono ?_; rintro e u2 ⟨rfl, hb⟩; have HB2 := Lib.hid (HB1.out.below hb HB1.out.lt); have HL2 := Lib.hid (HB0.out.l.trans (hb.mono HB0.out.l.size)); clear hb; have p0 := HB2.out.cell 0; have p1 := HB2.out.cell 1; have p2 := HB2.out.cell 2; have q0 := HB2.out.frozen 0; have q1 := HB2.out.frozen 1; have q2 := HB2.out.frozen 2; simp only [List.getElem?_toArray, List.getElem?_cons_zero, List.getElem?_cons_succ] at p0 p1 p2)
  have kU := (((HB2.out.set 0 (.string xn)).set 1 (.string xs)).set 2 (.int .i64 xu))
  simp only [List.setIfInBounds_toArray, List.set_cons_zero, List.set_cons_succ] at kU
  refine bodyPost_ret (v := .tuple #[.agg #[.string xn, .string xs, .int .i64 xu], .bool is]) ?_ rfl ⟨rfl, ?_⟩
  · have p0 := kU.cell 0; have p1 := kU.cell 1; have p2 := kU.cell 2
    simp [results, Tryz.f11, go_sem, p0, p1, p2]
  · have hl := HL2.out
    exact ((hl.setCell (p := ⟨w.heap.size + 1, 0, none⟩) (by show w.heap.size ≤ w.heap.size + 1; omega) _).setCell (p := ⟨w.heap.size + 1, 1, none⟩) (by show w.heap.size ≤ w.heap.size + 1; omega) _).setCell (p := ⟨w.heap.size + 1, 2, none⟩) (by show w.heap.size ≤ w.heap.size + 1; omega) _

end Go.Proofs.YtekobdmlgbffnaaGreatDoor
