/- syntax.Net: its contract. -/
import Derived.Test.YtekobdmlgbffnaaGreatDoorG10
namespace Go.Proofs.YtekobdmlgbffnaaGreatDoor
set_option linter.unusedVariables false
set_option maxRecDepth 100000
set_option linter.unusedSimpArgs false
open Go.RowKit Go.Shelf
attribute [local go_sem] Oper.semAt_some

theorem bk_own {β : Type} (B : Nat) (t : TypeId) (f : β → Array Value) : Own (fun s W => Bk W B t (f s)) := fun s X Y row hs hg hrow => by
  refine (hg.block B (Bk.lt hs) (fun e => ?_)).trans hs
  obtain ⟨o, ho, hc⟩ := hrow B e.symm
  rw [show X.heap[B]? = _ from hs] at ho; cases ho; cases hc
theorem fN_lt (xs : List (Nat × ByteArray)) : (fN xs).addr < 4294967296 ∧ (fN xs).bits ≤ 32 := by
  induction hn : xs.length generalizing xs with
  | zero => obtain rfl := List.eq_nil_of_length_eq_zero hn; decide
  | succ n ih0 =>
    rcases List.eq_nil_or_concat xs with rfl | ⟨ys, y, rfl⟩
    · decide
    rw [List.concat_eq_append] at hn ⊢
    have ih := ih0 ys (by rw [List.length_append, List.length_singleton] at hn; omega)
    rw [fN_snoc]
    unfold stN
    obtain ⟨k, P⟩ := y
    match k with
    | 0 =>
      refine ⟨?_, ih.2⟩
      show (addrO P).getD 0 < 4294967296
      cases h : addrO P with
      | none => simp
      | some v => exact (addr_is P v h).1
    | 1 =>
      refine ⟨ih.1, ?_⟩
      show (upToO 32 P).getD 0 ≤ 32
      cases h : upToO 32 P with
      | none => simp
      | some v => exact (upToO_is 32 v P h).1
    | n + 2 => exact ih
def vN (pre : List Pc) : Array Value := #[.int .u32 ((fN (pre.map (·.1))).addr : Int), .int .i64 ((fN (pre.map (·.1))).bits : Int)]
def vNL (pre : List Pc) : Value := .int .i64 ((fN (pre.map (·.1))).last : Int)
theorem fN_snoc' (pre : List Pc) (x : Pc) : fN ((pre ++ [x]).map (·.1)) = stN (fN (pre.map (·.1))) x.1 := by
  rw [List.map_append]; simp only [List.map_cons, List.map_nil]; rw [fN_snoc]

set_option maxRecDepth 100000 in
set_option maxHeartbeats 4000000 in
theorem net_ok (s : ByteArray) (w : World) (hs : s.size ≤ 140737488355328) :
    Calls Tryz.prog 109 #[.string s] w fun e w' => e = .returned (.tuple #[.agg #[.int .u32 (((netO s).getD (0, 0)).1 : Nat), .int .i64 (((netO s).getD (0, 0)).2 : Nat)], .bool (netO s).isSome]) ∧ Below w.heap.size w w' := by
  obtain ⟨R, hR⟩ : ∃ R, R = netO s := ⟨_, rfl⟩
  rw [← hR]
  have HR := Lib.hid hR
  clear hR
  refine (callsIn_wide (n := 6)).1 ?_
  refine callsIn_of_wp_marks Tryz.func109 rfl trivial ?_ rfl
  simp only [Tryz.ntmps109, List.size_toArray, List.length_cons, List.length_nil, Nat.reduceAdd, Nat.reduceSub, Array.replicate_succ, Array.replicate_zero, List.push_toArray, List.append_toArray, List.nil_append, List.cons_append]
  gi_wp2
  refine wpIn_wide.2 (wp_scope_jumps 0 (fun a u => ∃ D, a = { tmps := #[.string s, undef, .pointer (some ⟨w.heap.size, 0, none⟩), .bool false, .pointer (some ⟨w.heap.size + 1, 0, none⟩), .pointer (some ⟨w.heap.size + 1 + 1, 0, none⟩), undef, undef, undef, .string s, .func (.func 148) #[] #[.pointer (some ⟨w.heap.size + 1 + 1 + 1, 0, none⟩), .pointer (some ⟨w.heap.size + 1 + 1 + 1 + 1, 0, none⟩)], undef, undef, undef, undef, undef, undef, undef, undef, undef, undef, undef, undef, undef, undef, undef, undef, undef, undef, undef, undef, undef, undef, undef, undef, undef, undef, undef, undef, undef, undef], defers := [{ target := .collected D, args := #[] }] } ∧ w.heap.size ≤ D ∧ u.heap[D]? = some (.deferred (some [])) ∧ Bk u w.heap.size 85 #[.int .u32 0, .int .i64 0] ∧ Below w.heap.size w u ∧ R = none) (fun _ _ => 0) rfl ?first ?pass)
  case first =>
    refine (wpIn_wide (n := 6)).1 ?_
    gi_wp2_with (refine ⟨trivial, ?_⟩; gi_at_call 130; refine (callsIn_wide.2 (pieces_ok _ _ _)).mono ?_; rintro e w' ⟨rfl, rfl⟩)
    obtain ⟨Wa, hWa⟩ : ∃ Wa, w.alloc (.cells #[.int .u32 0, .int .i64 0] 85) = Wa := ⟨_, rfl⟩
    obtain ⟨Wb, hWb⟩ : ∃ Wb, Wa.alloc (.cells #[.int .u32 0, .int .i64 0] 85) = Wb := ⟨_, rfl⟩
    obtain ⟨Wc, hWc⟩ : ∃ Wc, Wb.alloc (.cells #[.int .i64 0] 3) = Wc := ⟨_, rfl⟩
    obtain ⟨Wd, hWd⟩ : ∃ Wd, Wc.alloc (.cells #[.string s] 9) = Wd := ⟨_, rfl⟩
    obtain ⟨W0, hW0⟩ : ∃ W0, Wd.alloc (.cells #[.string ⟨#[47]⟩] 9) = W0 := ⟨_, rfl⟩
    rw [hWa, hWb, hWc, hWd, hW0]
    have za : Wa.heap.size = w.heap.size + 1 := by rw [← hWa, World.size_alloc]
    have zb : Wb.heap.size = w.heap.size + 1 + 1 := by rw [← hWb, World.size_alloc, za]
    have zc : Wc.heap.size = w.heap.size + 1 + 1 + 1 := by rw [← hWc, World.size_alloc, zb]
    have zd : Wd.heap.size = w.heap.size + 1 + 1 + 1 + 1 := by rw [← hWd, World.size_alloc, zc]
    have hz : W0.heap.size = w.heap.size + 5 := by rw [← hW0, World.size_alloc, zd]
    have hB0 : Below w.heap.size w W0 := by
      rw [← hW0, ← hWd, ← hWc, ← hWb, ← hWa]; go_grown
    have hkz : Bk W0 w.heap.size 85 #[.int .u32 0, .int .i64 0] := by
      have : Bk Wa w.heap.size 85 #[.int .u32 0, .int .i64 0] := by rw [← hWa]; exact Bk.here rfl
      rw [← hW0, ← hWd, ← hWc, ← hWb]; exact (((this.alloc _).alloc _).alloc _).alloc _
    have hkn : Bk W0 (w.heap.size + 1) 85 (vN []) := by
      have : Bk Wb (w.heap.size + 1) 85 #[.int .u32 0, .int .i64 0] := by rw [← hWb]; exact Bk.here za.symm
      rw [← hW0, ← hWd, ← hWc]; exact ((this.alloc _).alloc _).alloc _
    have hkl : Boxed W0 (w.heap.size + 1 + 1) 3 (vNL []) := by
      have : Bk Wc (w.heap.size + 1 + 1) 3 #[.int .i64 0] := by rw [← hWc]; exact Bk.here zb.symm
      rw [← hW0, ← hWd]; exact (this.alloc _).alloc _
    have hk2 : Bk W0 (w.heap.size + 1 + 1 + 1) 9 #[.string s] := by
      have : Bk Wd (w.heap.size + 1 + 1 + 1) 9 #[.string s] := by rw [← hWd]; exact Bk.here zc.symm
      rw [← hW0]; exact this.alloc _
    have hk3 : Bk W0 (w.heap.size + 1 + 1 + 1 + 1) 9 #[.string ⟨#[47]⟩] := by rw [← hW0]; exact Bk.here zd.symm
    clear hW0 hWa hWb hWc hWd za zb zc zd
    refine wpIn_rangeFunc_ownF rfl (by omega) (gf := 148) (lb := #[.pointer (some ⟨w.heap.size + 1 + 1 + 1, 0, none⟩), .pointer (some ⟨w.heap.size + 1 + 1 + 1 + 1, 0, none⟩)]) rfl trivial (enters_of Tryz.func148 (by kernel_rfl) rfl)
      (pieces1_stops 5 (by omega) (w.heap.size + 1 + 1 + 1) s 47 W0 hk2 hk3 hs) (fun h k => Kp2.t h k)
      (fun W l o o' hl ho _ _ => ⟨?kb1, ?kb2⟩) (Below.refl _ _) (fun _ => rfl)
      (fun pre W => Bk W (w.heap.size + 1) 85 (vN pre) ∧ Boxed W (w.heap.size + 1 + 1) 3 (vNL pre) ∧ Bk W w.heap.size 85 #[.int .u32 0, .int .i64 0] ∧ (∀ x ∈ pre, okN x.1 = true) ∧ w.heap.size + 5 ≤ W.heap.size ∧ Below w.heap.size w W)
      (fun c pre W => (c = .goto 0 ∧ ∃ x ∈ pre, okN x.1 = false) ∧ Bk W w.heap.size 85 #[.int .u32 0, .int .i64 0] ∧ Below w.heap.size w W)
      (OwnFrom.and (Own.from (bk_own _ _ _) _) (OwnFrom.and (Own.from (boxed_own _ _ _) _) (OwnFrom.and (Own.from (bk_own _ _ (fun _ => #[.int .u32 0, .int .i64 0])) _) (OwnFrom.and (ownFrom_pure _ _) (OwnFrom.and (ownFrom_size _ _) (ownFrom_below (Nat.le_refl _) (by omega)))))))
      (fun c => OwnFrom.and (ownFrom_pure _ _) (OwnFrom.and (Own.from (bk_own _ _ (fun _ => #[.int .u32 0, .int .i64 0])) _) (ownFrom_below (Nat.le_refl _) (by omega))))
      ⟨hkn, hkl, hkz, (fun x hx => by cases hx), Nat.le_of_eq hz.symm, hB0⟩
      (fun x => { tmps := #[.string s, undef, .pointer (some ⟨w.heap.size, 0, none⟩), .bool false, .pointer (some ⟨w.heap.size + 1, 0, none⟩), .pointer (some ⟨w.heap.size + 1 + 1, 0, none⟩), .int .i64 (x.1.1 : Int), .string x.1.2, undef, .string s, .func (.func 148) #[] #[.pointer (some ⟨w.heap.size + 1 + 1 + 1, 0, none⟩), .pointer (some ⟨w.heap.size + 1 + 1 + 1 + 1, 0, none⟩)], .int .i64 (x.1.1 : Int), .string x.1.2, undef, undef, undef, undef, undef, undef, undef, undef, undef, undef, undef, undef, undef, undef, undef, undef, undef, undef, undef, undef, undef, undef, undef, undef, undef, undef, undef, undef], defers := [] }) ?assign ?body ?done ?stop
    case kb1 => exact (grownBy_putObj' W l o').block _ (by have := (Array.getElem?_eq_some_iff.1 ho).1; omega) (fun e => by cases e; omega)
    case kb2 => exact (grownBy_putObj' W l o').block _ (by have := (Array.getElem?_eq_some_iff.1 ho).1; omega) (fun e => by cases e; omega)
    case assign =>
      intro l x W K hK
      gi_wp2
      exact hK
    case body =>
      rintro l pre x W ⟨hN, hL, hZ, hok, hWz, hB⟩ _
      obtain ⟨⟨k, P⟩, hP⟩ := x
      have hn1 : 1 ≤ 6 - 1 - 1 := by omega
      obtain ⟨a0, b0, l0, hv⟩ : ∃ a0 b0 l0, fN (pre.map (·.1)) = ⟨a0, b0, l0⟩ := ⟨_, _, _, rfl⟩
      have hvn : vN pre = #[.int .u32 (a0 : Int), .int .i64 (b0 : Int)] := by unfold vN; rw [hv]
      have hvl : vNL pre = .int .i64 (l0 : Int) := by unfold vNL; rw [hv]
      rw [hvn] at hN
      rw [hvl] at hL
      have HN0 := Lib.hid hN
      have HL0 := Lib.hid hL
      have HZ0 := Lib.hid hZ
      have HOK := Lib.hid hok
      have HF := Lib.hid (show fN ((pre ++ [(⟨(k, P), hP⟩ : Pc)]).map (·.1)) = stN ⟨a0, b0, l0⟩ (k, P) by rw [fN_snoc', hv])
      clear hN hL hZ hok hvn hvl hv
      by_cases h0 : k = 0
      · subst h0
        have HA := Lib.hid (fun u => addr_ok P u hP)
        cases ha : addrO P with
        | none =>
          rw [ha] at HA
          simp only [Option.getD_none, Option.isSome_none] at HA
          have HK := Lib.hid (show okN (0, P) = false by simp [okN, ha])
          clear ha
          gi_wp2
          refine ⟨trivial, ?_⟩
          refine (CallsIn.inRound l (callsIn_wide.2 (HA.out _))).mono ?_
          rintro e w2 ⟨rfl, hb2⟩
          have hN2 := HN0.out.below hb2 HN0.out.lt
          have hL2 : Boxed w2 (w.heap.size + 1 + 1) 3 (.int .i64 (l0 : Int)) := (hb2.block _ HL0.out.lt).trans HL0.out
          have cn0 : w2.cell? ⟨w.heap.size + 1, 0, none⟩ = some (.int .u32 (a0 : Int)) := by (rw [hN2.cell]; rfl)
          have cn1 : w2.cell? ⟨w.heap.size + 1, 1, none⟩ = some (.int .i64 (b0 : Int)) := by (rw [hN2.cell]; rfl)
          have fn0 := hN2.frozen 0
          have fn1 := hN2.frozen 1
          have cl2 := Boxed.cell hL2
          have fl2 := Boxed.frozen hL2
          gi_wp2
          refine wpIn_goto ?_
          show KeepsOthers W (w2.setCell ⟨w.heap.size + 1, 0, none⟩ (.int .u32 0)) ∧ ((Code.goto 0 = .goto 0 ∧ ∃ y ∈ pre ++ [(⟨(0, P), hP⟩ : Pc)], okN y.1 = false) ∧ Bk (w2.setCell ⟨w.heap.size + 1, 0, none⟩ (.int .u32 0)) w.heap.size 85 #[.int .u32 0, .int .i64 0] ∧ Below w.heap.size w (w2.setCell ⟨w.heap.size + 1, 0, none⟩ (.int .u32 0)))
          exact ⟨(KeepsOthers.below hb2).trans (KeepsOthers.setCell _ _ _), ⟨rfl, _, List.mem_append.2 (.inr (List.mem_singleton.2 rfl)), HK.out⟩, (HZ0.out.below hb2 HZ0.out.lt).far (by show w.heap.size ≠ w.heap.size + 1; omega) _, (hB.trans (hb2.mono hB.size)).setCell (p := ⟨w.heap.size + 1, 0, none⟩) (by show w.heap.size ≤ w.heap.size + 1; omega) _⟩
        | some a =>
          rw [ha] at HA
          simp only [Option.getD_some, Option.isSome_some] at HA
          have HK := Lib.hid (show okN (0, P) = true by simp [okN, ha])
          have HVN := Lib.hid (show vN (pre ++ [(⟨(0, P), hP⟩ : Pc)]) = #[.int .u32 (a : Int), .int .i64 (b0 : Int)] by unfold vN; rw [HF.out]; simp [stN, ha])
          have HVL := Lib.hid (show vNL (pre ++ [(⟨(0, P), hP⟩ : Pc)]) = .int .i64 0 by unfold vNL; rw [HF.out]; simp [stN, ha])
          clear ha
          gi_wp2
          refine ⟨trivial, ?_⟩
          refine (CallsIn.inRound l (callsIn_wide.2 (HA.out _))).mono ?_
          rintro e w2 ⟨rfl, hb2⟩
          have hN2 := HN0.out.below hb2 HN0.out.lt
          have hL2 : Boxed w2 (w.heap.size + 1 + 1) 3 (.int .i64 (l0 : Int)) := (hb2.block _ HL0.out.lt).trans HL0.out
          have cn0 : w2.cell? ⟨w.heap.size + 1, 0, none⟩ = some (.int .u32 (a0 : Int)) := by (rw [hN2.cell]; rfl)
          have cn1 : w2.cell? ⟨w.heap.size + 1, 1, none⟩ = some (.int .i64 (b0 : Int)) := by (rw [hN2.cell]; rfl)
          have fn0 := hN2.frozen 0
          have fn1 := hN2.frozen 1
          have cl2 := Boxed.cell hL2
          have fl2 := Boxed.frozen hL2
          gi_wp2
          refine ⟨(KeepsOthers.below hb2).trans ((KeepsOthers.setCell _ _ _).trans (KeepsOthers.setCell _ _ _)), ⟨?_, ?_⟩, ?_, ?_, ?_, ?_, ?_, ((hB.trans (hb2.mono hB.size)).setCell (p := ⟨w.heap.size + 1, 0, none⟩) (by show w.heap.size ≤ w.heap.size + 1; omega) _).setCell (p := ⟨w.heap.size + 1 + 1, 0, none⟩) (by show w.heap.size ≤ w.heap.size + 1 + 1; omega) _⟩
          · rw [Below.heap_setCell _ _ _ _ (by show w.heap.size + 1 + 1 + 1 ≠ w.heap.size + 1 + 1; omega), Below.heap_setCell _ _ _ _ (by show w.heap.size + 1 + 1 + 1 ≠ w.heap.size + 1; omega)]
            exact hb2.block _ (by omega)
          · rw [Below.heap_setCell _ _ _ _ (by show w.heap.size + 1 + 1 + 1 + 1 ≠ w.heap.size + 1 + 1; omega), Below.heap_setCell _ _ _ _ (by show w.heap.size + 1 + 1 + 1 + 1 ≠ w.heap.size + 1; omega)]
            exact hb2.block _ (by omega)
          · rw [HVN.out]
            exact (hN2.set 0 (.int .u32 (a : Int))).far (by show w.heap.size + 1 ≠ w.heap.size + 1 + 1; omega) _
          · rw [HVL.out]
            exact Boxed.set _ (show Boxed _ _ _ _ from Bk.far hL2 (p := ⟨w.heap.size + 1, 0, none⟩) (by show w.heap.size + 1 + 1 ≠ w.heap.size + 1; omega) (.int .u32 (a : Int)))
          · exact ((HZ0.out.below hb2 HZ0.out.lt).far (by show w.heap.size ≠ w.heap.size + 1; omega) _).far (by show w.heap.size ≠ w.heap.size + 1 + 1; omega) _
          · intro y hy
            rcases List.mem_append.1 hy with h | h
            · exact HOK.out y h
            · obtain rfl : y = ⟨(0, P), hP⟩ := by simpa using h
              exact HK.out
          · have := hb2.size
            rw [World.size_setCell, World.size_setCell]; omega
      by_cases h1 : k = 1
      · subst h1
        have HA := Lib.hid (fun u => upTo_ok 32 P u (by omega) hP)
        cases ha : upToO 32 P with
        | none =>
          rw [ha] at HA
          simp only [Option.getD_none, Option.isSome_none] at HA
          have HK := Lib.hid (show okN (1, P) = false by simp [okN, ha])
          clear ha
          gi_wp2
          refine ⟨trivial, ?_⟩
          refine (CallsIn.inRound l (callsIn_wide.2 (HA.out _))).mono ?_
          rintro e w2 ⟨rfl, hb2⟩
          have hN2 := HN0.out.below hb2 HN0.out.lt
          have hL2 : Boxed w2 (w.heap.size + 1 + 1) 3 (.int .i64 (l0 : Int)) := (hb2.block _ HL0.out.lt).trans HL0.out
          have cn0 : w2.cell? ⟨w.heap.size + 1, 0, none⟩ = some (.int .u32 (a0 : Int)) := by (rw [hN2.cell]; rfl)
          have cn1 : w2.cell? ⟨w.heap.size + 1, 1, none⟩ = some (.int .i64 (b0 : Int)) := by (rw [hN2.cell]; rfl)
          have fn0 := hN2.frozen 0
          have fn1 := hN2.frozen 1
          have cl2 := Boxed.cell hL2
          have fl2 := Boxed.frozen hL2
          gi_wp2
          refine wpIn_goto ?_
          show KeepsOthers W (w2.setCell ⟨w.heap.size + 1, 1, none⟩ (.int .i64 0)) ∧ ((Code.goto 0 = .goto 0 ∧ ∃ y ∈ pre ++ [(⟨(1, P), hP⟩ : Pc)], okN y.1 = false) ∧ Bk (w2.setCell ⟨w.heap.size + 1, 1, none⟩ (.int .i64 0)) w.heap.size 85 #[.int .u32 0, .int .i64 0] ∧ Below w.heap.size w (w2.setCell ⟨w.heap.size + 1, 1, none⟩ (.int .i64 0)))
          exact ⟨(KeepsOthers.below hb2).trans (KeepsOthers.setCell _ _ _), ⟨rfl, _, List.mem_append.2 (.inr (List.mem_singleton.2 rfl)), HK.out⟩, (HZ0.out.below hb2 HZ0.out.lt).far (by show w.heap.size ≠ w.heap.size + 1; omega) _, (hB.trans (hb2.mono hB.size)).setCell (p := ⟨w.heap.size + 1, 1, none⟩) (by show w.heap.size ≤ w.heap.size + 1; omega) _⟩
        | some a =>
          rw [ha] at HA
          simp only [Option.getD_some, Option.isSome_some] at HA
          have HK := Lib.hid (show okN (1, P) = true by simp [okN, ha])
          have HVN := Lib.hid (show vN (pre ++ [(⟨(1, P), hP⟩ : Pc)]) = #[.int .u32 (a0 : Int), .int .i64 (a : Int)] by unfold vN; rw [HF.out]; simp [stN, ha])
          have HVL := Lib.hid (show vNL (pre ++ [(⟨(1, P), hP⟩ : Pc)]) = .int .i64 1 by unfold vNL; rw [HF.out]; simp [stN, ha])
          clear ha
          gi_wp2
          refine ⟨trivial, ?_⟩
          refine (CallsIn.inRound l (callsIn_wide.2 (HA.out _))).mono ?_
          rintro e w2 ⟨rfl, hb2⟩
          have hN2 := HN0.out.below hb2 HN0.out.lt
          have hL2 : Boxed w2 (w.heap.size + 1 + 1) 3 (.int .i64 (l0 : Int)) := (hb2.block _ HL0.out.lt).trans HL0.out
          have cn0 : w2.cell? ⟨w.heap.size + 1, 0, none⟩ = some (.int .u32 (a0 : Int)) := by (rw [hN2.cell]; rfl)
          have cn1 : w2.cell? ⟨w.heap.size + 1, 1, none⟩ = some (.int .i64 (b0 : Int)) := by (rw [hN2.cell]; rfl)
          have fn0 := hN2.frozen 0
          have fn1 := hN2.frozen 1
          have cl2 := Boxed.cell hL2
          have fl2 := Boxed.frozen hL2
          gi_wp2
          refine ⟨(KeepsOthers.below hb2).trans ((KeepsOthers.setCell _ _ _).trans (KeepsOthers.setCell _ _ _)), ⟨?_, ?_⟩, ?_, ?_, ?_, ?_, ?_, ((hB.trans (hb2.mono hB.size)).setCell (p := ⟨w.heap.size + 1, 1, none⟩) (by show w.heap.size ≤ w.heap.size + 1; omega) _).setCell (p := ⟨w.heap.size + 1 + 1, 0, none⟩) (by show w.heap.size ≤ w.heap.size + 1 + 1; omega) _⟩
          · rw [Below.heap_setCell _ _ _ _ (by show w.heap.size + 1 + 1 + 1 ≠ w.heap.size + 1 + 1; omega), Below.heap_setCell _ _ _ _ (by show w.heap.size + 1 + 1 + 1 ≠ w.heap.size + 1; omega)]
            exact hb2.block _ (by omega)
          · rw [Below.heap_setCell _ _ _ _ (by show w.heap.size + 1 + 1 + 1 + 1 ≠ w.heap.size + 1 + 1; omega), Below.heap_setCell _ _ _ _ (by show w.heap.size + 1 + 1 + 1 + 1 ≠ w.heap.size + 1; omega)]
            exact hb2.block _ (by omega)
          · rw [HVN.out]
            exact (hN2.set 1 (.int .i64 (a : Int))).far (by show w.heap.size + 1 ≠ w.heap.size + 1 + 1; omega) _
          · rw [HVL.out]
            exact Boxed.set _ (show Boxed _ _ _ _ from Bk.far hL2 (p := ⟨w.heap.size + 1, 1, none⟩) (by show w.heap.size + 1 + 1 ≠ w.heap.size + 1; omega) (.int .i64 (a : Int)))
          · exact ((HZ0.out.below hb2 HZ0.out.lt).far (by show w.heap.size ≠ w.heap.size + 1; omega) _).far (by show w.heap.size ≠ w.heap.size + 1 + 1; omega) _
          · intro y hy
            rcases List.mem_append.1 hy with h | h
            · exact HOK.out y h
            · obtain rfl : y = ⟨(1, P), hP⟩ := by simpa using h
              exact HK.out
          · have := hb2.size
            rw [World.size_setCell, World.size_setCell]; omega
      have HK := Lib.hid (show okN (k, P) = false by
        match k, h0, h1 with
        | m + 2, _, _ => rfl)
      have e0 : ((k : Int) == 0) = false := by rw [beq_eq_false_iff_ne]; omega
      have e1 : ((k : Int) == 1) = false := by rw [beq_eq_false_iff_ne]; omega
      clear h0 h1
      gi_wp2
      refine wpIn_goto ?_
      show KeepsOthers W W ∧ ((Code.goto 0 = .goto 0 ∧ ∃ y ∈ pre ++ [(⟨(k, P), hP⟩ : Pc)], okN y.1 = false) ∧ Bk W w.heap.size 85 #[.int .u32 0, .int .i64 0] ∧ Below w.heap.size w W)
      exact ⟨KeepsOthers.refl _, ⟨rfl, _, List.mem_append.2 (.inr (List.mem_singleton.2 rfl)), HK.out⟩, HZ0.out, hB⟩
    case done =>
      rintro D xs W hD hS ⟨hN, hL, hZ, hok, hWz, hB⟩ hK
      obtain ⟨a0, b0, l0, hv⟩ : ∃ a0 b0 l0, fN (xs.map (·.1)) = ⟨a0, b0, l0⟩ := ⟨_, _, _, rfl⟩
      have hlt := fN_lt (xs.map (·.1))
      rw [hv] at hlt
      simp only at hlt
      have hRv : R = if l0 = 1 ∧ rightB a0 b0 = true then some (a0, b0) else none := by
        rw [HR.out]
        unfold netO
        have := N_done _ (fun x hx => by rw [← hS] at hx; obtain ⟨y, hy, rfl⟩ := List.mem_map.1 hx; exact hok y hy)
        rw [← hS, hv] at this
        exact this
      have hvn : vN xs = #[.int .u32 (a0 : Int), .int .i64 (b0 : Int)] := by unfold vN; rw [hv]
      have hvl : vNL xs = .int .i64 (l0 : Int) := by unfold vNL; rw [hv]
      rw [hvn] at hN
      rw [hvl] at hL
      have cl := hL.cell
      have n0 : W.cell? ⟨w.heap.size + 1, 0, none⟩ = some (.int .u32 (a0 : Int)) := by rw [hN.cell]; rfl
      have n1 : W.cell? ⟨w.heap.size + 1, 1, none⟩ = some (.int .i64 (b0 : Int)) := by rw [hN.cell]; rfl
      have HK := Lib.hid hK
      have HN := Lib.hid hN
      have HZ := Lib.hid hZ
      clear hv hN hL hok hS hK hvn hvl
      by_cases h3 : l0 = 1
      · subst h3
        have HRT := Lib.hid (fun u => netright_ok a0 b0 u hlt.1)
        by_cases hr : rightB a0 b0 = true
        · have HRV := Lib.hid (show R = some (a0, b0) by rw [hRv, hr]; rfl)
          rw [hr] at HRT
          clear hRv hr hZ
          gi_wp2
          refine ⟨trivial, ?_⟩
          refine (callsIn_wide.2 (HRT.out _)).mono ?_
          rintro e W2 ⟨rfl, hb2⟩
          have hZ2 := HZ.out.below hb2 HZ.out.lt
          have hN2 := HN.out.below hb2 HN.out.lt
          have HK2 := Lib.hid ((hb2.block _ (Array.getElem?_eq_some_iff.1 HK.out).1).trans HK.out)
          have HB2 := Lib.hid (hB.trans (hb2.mono hB.size))
          have c0 : W2.cell? ⟨w.heap.size, 0, none⟩ = some (.int .u32 0) := by rw [Bk.cell hZ2]; rfl
          have c1 : W2.cell? ⟨w.heap.size, 1, none⟩ = some (.int .i64 0) := by rw [Bk.cell hZ2]; rfl
          have f0 := Bk.frozen hZ2 0
          have f1 := Bk.frozen hZ2 1
          have m0 : W2.cell? ⟨w.heap.size + 1, 0, none⟩ = some (.int .u32 (a0 : Int)) := by rw [hN2.cell]; rfl
          have m1 : W2.cell? ⟨w.heap.size + 1, 1, none⟩ = some (.int .i64 (b0 : Int)) := by rw [hN2.cell]; rfl
          have HZ2 := Lib.hid hZ2
          clear hZ2 hN2 hb2 cl n0 n1
          gi_wp2
          have hzz := ((HZ2.out).set 0 (.int .u32 (a0 : Int))).set 1 (.int .i64 (b0 : Int))
          have hKK := ((KeepsOthers.setCell W2 ⟨w.heap.size, 0, none⟩ (.int .u32 (a0 : Int))).trans (KeepsOthers.setCell _ ⟨w.heap.size, 1, none⟩ (.int .i64 (b0 : Int)))).same D _ HK2.out rfl
          have hBB : Below w.heap.size w ((W2.setCell ⟨w.heap.size, 0, none⟩ (.int .u32 (a0 : Int))).setCell ⟨w.heap.size, 1, none⟩ (.int .i64 (b0 : Int))) := ((HB2.out).setCell (p := ⟨w.heap.size, 0, none⟩) (Nat.le_refl _) _).setCell (p := ⟨w.heap.size, 1, none⟩) (Nat.le_refl _) _
          obtain ⟨u2, hu2⟩ : ∃ u2, (W2.setCell ⟨w.heap.size, 0, none⟩ (.int .u32 (a0 : Int))).setCell ⟨w.heap.size, 1, none⟩ (.int .i64 (b0 : Int)) = u2 := ⟨_, rfl⟩
          rw [hu2] at hzz hKK hBB ⊢
          refine ⟨by simp, .inl ⟨_, _, rfl, run_takeDeferred hKK, ?_⟩⟩
          have hz3 : Bk (u2.putObj D (.deferred none)) w.heap.size 85 #[.int .u32 (a0 : Int), .int .i64 (b0 : Int)] := ((grownBy_putObj' u2 D (.deferred none)).block _ hzz.lt (fun e => by injection e with e; rw [← e] at hKK; rw [show u2.heap[w.heap.size]? = _ from hzz] at hKK; cases hKK)).trans hzz
          have q0 : (u2.putObj D (.deferred none)).cell? ⟨w.heap.size, 0, none⟩ = some (.int .u32 (a0 : Int)) := by rw [hz3.cell]; rfl
          have q1 : (u2.putObj D (.deferred none)).cell? ⟨w.heap.size, 1, none⟩ = some (.int .i64 (b0 : Int)) := by rw [hz3.cell]; rfl
          rw [HRV.out]
          refine ⟨.tuple #[.agg #[.int .u32 (a0 : Int), .int .i64 (b0 : Int)], .bool true], ?_, rfl, hBB.trans (belowK_b (w := w) (Nat.le_refl _) u2 D _ _ (by omega) hKK rfl rfl)⟩
          simp [results, Tryz.f109, go_sem, q0, q1]
        · have hr2 : rightB a0 b0 = false := by simpa using hr
          have HRV := Lib.hid (show R = none by rw [hRv, hr2]; rfl)
          rw [hr2] at HRT
          clear hRv hr hr2 hZ
          gi_wp2
          refine ⟨trivial, ?_⟩
          refine (callsIn_wide.2 (HRT.out _)).mono ?_
          rintro e W2 ⟨rfl, hb2⟩
          have hZ2 := HZ.out.below hb2 HZ.out.lt
          have HK2 := Lib.hid ((hb2.block _ (Array.getElem?_eq_some_iff.1 HK.out).1).trans HK.out)
          have HB2 := Lib.hid (hB.trans (hb2.mono hB.size))
          have c0 : W2.cell? ⟨w.heap.size, 0, none⟩ = some (.int .u32 0) := by rw [Bk.cell hZ2]; rfl
          have c1 : W2.cell? ⟨w.heap.size, 1, none⟩ = some (.int .i64 0) := by rw [Bk.cell hZ2]; rfl
          have f0 := Bk.frozen hZ2 0
          have f1 := Bk.frozen hZ2 1
          have HZ2 := Lib.hid hZ2
          clear hZ2 hb2 cl n0 n1
          gi_wp2
          refine wpIn_label ?_
          gi_wp2
          have hzz := ((HZ2.out).set 0 (.int .u32 0)).set 1 (.int .i64 0)
          have hKK := ((KeepsOthers.setCell W2 ⟨w.heap.size, 0, none⟩ (.int .u32 0)).trans (KeepsOthers.setCell _ ⟨w.heap.size, 1, none⟩ (.int .i64 0))).same D _ HK2.out rfl
          have hBB : Below w.heap.size w ((W2.setCell ⟨w.heap.size, 0, none⟩ (.int .u32 0)).setCell ⟨w.heap.size, 1, none⟩ (.int .i64 0)) := ((HB2.out).setCell (p := ⟨w.heap.size, 0, none⟩) (Nat.le_refl _) _).setCell (p := ⟨w.heap.size, 1, none⟩) (Nat.le_refl _) _
          obtain ⟨u2, hu2⟩ : ∃ u2, (W2.setCell ⟨w.heap.size, 0, none⟩ (.int .u32 0)).setCell ⟨w.heap.size, 1, none⟩ (.int .i64 0) = u2 := ⟨_, rfl⟩
          rw [hu2] at hzz hKK hBB ⊢
          refine ⟨by simp, .inl ⟨_, _, rfl, run_takeDeferred hKK, ?_⟩⟩
          have hz3 : Bk (u2.putObj D (.deferred none)) w.heap.size 85 #[.int .u32 0, .int .i64 0] := ((grownBy_putObj' u2 D (.deferred none)).block _ hzz.lt (fun e => by injection e with e; rw [← e] at hKK; rw [show u2.heap[w.heap.size]? = _ from hzz] at hKK; cases hKK)).trans hzz
          have q0 : (u2.putObj D (.deferred none)).cell? ⟨w.heap.size, 0, none⟩ = some (.int .u32 0) := by rw [hz3.cell]; rfl
          have q1 : (u2.putObj D (.deferred none)).cell? ⟨w.heap.size, 1, none⟩ = some (.int .i64 0) := by rw [hz3.cell]; rfl
          rw [HRV.out]
          refine ⟨.tuple #[.agg #[.int .u32 0, .int .i64 0], .bool false], ?_, rfl, hBB.trans (belowK_b (w := w) (Nat.le_refl _) u2 D _ _ (by omega) hKK rfl rfl)⟩
          simp [results, Tryz.f109, go_sem, q0, q1]
      · have e3 : ((l0 : Int) == 1) = false := by rw [beq_eq_false_iff_ne]; omega
        have HRV := Lib.hid (show R = none by rw [hRv, if_neg (fun h => h3 h.1)])
        clear hRv h3
        have c0 : W.cell? ⟨w.heap.size, 0, none⟩ = some (.int .u32 0) := by rw [Bk.cell hZ]; rfl
        have c1 : W.cell? ⟨w.heap.size, 1, none⟩ = some (.int .i64 0) := by rw [Bk.cell hZ]; rfl
        have f0 := Bk.frozen hZ 0
        have f1 := Bk.frozen hZ 1
        clear hZ
        gi_wp2
        refine ⟨trivial, ?_⟩
        gi_wp2
        refine wpIn_label ?_
        gi_wp2
        have hzz := ((HZ.out).set 0 (.int .u32 0)).set 1 (.int .i64 0)
        have hKK := ((KeepsOthers.setCell W ⟨w.heap.size, 0, none⟩ (.int .u32 0)).trans (KeepsOthers.setCell _ ⟨w.heap.size, 1, none⟩ (.int .i64 0))).same D _ HK.out rfl
        have hBB : Below w.heap.size w ((W.setCell ⟨w.heap.size, 0, none⟩ (.int .u32 0)).setCell ⟨w.heap.size, 1, none⟩ (.int .i64 0)) := ((hB).setCell (p := ⟨w.heap.size, 0, none⟩) (Nat.le_refl _) _).setCell (p := ⟨w.heap.size, 1, none⟩) (Nat.le_refl _) _
        obtain ⟨u2, hu2⟩ : ∃ u2, (W.setCell ⟨w.heap.size, 0, none⟩ (.int .u32 0)).setCell ⟨w.heap.size, 1, none⟩ (.int .i64 0) = u2 := ⟨_, rfl⟩
        rw [hu2] at hzz hKK hBB ⊢
        refine ⟨by simp, .inl ⟨_, _, rfl, run_takeDeferred hKK, ?_⟩⟩
        have hz3 : Bk (u2.putObj D (.deferred none)) w.heap.size 85 #[.int .u32 0, .int .i64 0] := ((grownBy_putObj' u2 D (.deferred none)).block _ hzz.lt (fun e => by injection e with e; rw [← e] at hKK; rw [show u2.heap[w.heap.size]? = _ from hzz] at hKK; cases hKK)).trans hzz
        have q0 : (u2.putObj D (.deferred none)).cell? ⟨w.heap.size, 0, none⟩ = some (.int .u32 0) := by rw [hz3.cell]; rfl
        have q1 : (u2.putObj D (.deferred none)).cell? ⟨w.heap.size, 1, none⟩ = some (.int .i64 0) := by rw [hz3.cell]; rfl
        rw [HRV.out]
        refine ⟨.tuple #[.agg #[.int .u32 0, .int .i64 0], .bool false], ?_, rfl, hBB.trans (belowK_b (w := w) (Nat.le_refl _) u2 D _ _ (by omega) hKK rfl rfl)⟩
        simp [results, Tryz.f109, go_sem, q0, q1]
    case stop =>
      rintro D c pre W hD hSp ⟨⟨rfl, x, hx, hbad⟩, hZ, hB⟩ hK
      have hRn : R = none := by
        rw [HR.out]
        exact N_stop _ _ hSp x.1 (List.mem_map.2 ⟨x, hx, rfl⟩) hbad
      refine wpIn_goto ?_
      refine ⟨rfl, D, rfl, by omega, hK, hZ, hB, hRn⟩
  case pass =>
    rintro a u ⟨D, rfl, hD, hK, hZ, hB, hRn⟩
    have hc0 : u.cell? ⟨w.heap.size, 0, none⟩ = some (.int .u32 0) := by rw [hZ.cell]; rfl
    have hc1 : u.cell? ⟨w.heap.size, 1, none⟩ = some (.int .i64 0) := by rw [hZ.cell]; rfl
    have hf0 : u.frozen? ⟨w.heap.size, 0, none⟩ = false := hZ.frozen 0
    have hf1 : u.frozen? ⟨w.heap.size, 1, none⟩ = false := hZ.frozen 1
    have HZ := Lib.hid hZ
    clear hZ
    go_wp2
    have hzz := ((HZ.out).set 0 (.int .u32 0)).set 1 (.int .i64 0)
    have hKK := ((KeepsOthers.setCell u ⟨w.heap.size, 0, none⟩ (.int .u32 0)).trans (KeepsOthers.setCell _ ⟨w.heap.size, 1, none⟩ (.int .i64 0))).same D _ hK rfl
    have hBB : Below w.heap.size w ((u.setCell ⟨w.heap.size, 0, none⟩ (.int .u32 0)).setCell ⟨w.heap.size, 1, none⟩ (.int .i64 0)) := ((hB).setCell (p := ⟨w.heap.size, 0, none⟩) (Nat.le_refl _) _).setCell (p := ⟨w.heap.size, 1, none⟩) (Nat.le_refl _) _
    obtain ⟨u2, hu2⟩ : ∃ u2, (u.setCell ⟨w.heap.size, 0, none⟩ (.int .u32 0)).setCell ⟨w.heap.size, 1, none⟩ (.int .i64 0) = u2 := ⟨_, rfl⟩
    rw [hu2] at hzz hKK hBB ⊢
    refine ⟨by simp, .inl ⟨_, _, rfl, run_takeDeferred hKK, ?_⟩⟩
    have hz3 : Bk (u2.putObj D (.deferred none)) w.heap.size 85 #[.int .u32 0, .int .i64 0] := ((grownBy_putObj' u2 D (.deferred none)).block _ hzz.lt (fun e => by injection e with e; rw [← e] at hKK; rw [show u2.heap[w.heap.size]? = _ from hzz] at hKK; cases hKK)).trans hzz
    have q0 : (u2.putObj D (.deferred none)).cell? ⟨w.heap.size, 0, none⟩ = some (.int .u32 0) := by rw [hz3.cell]; rfl
    have q1 : (u2.putObj D (.deferred none)).cell? ⟨w.heap.size, 1, none⟩ = some (.int .i64 0) := by rw [hz3.cell]; rfl
    rw [hRn]
    refine ⟨.tuple #[.agg #[.int .u32 0, .int .i64 0], .bool false], ?_, rfl, hBB.trans (belowK_b (w := w) (Nat.le_refl _) u2 D _ _ (by omega) hKK rfl rfl)⟩
    simp [results, Tryz.f109, go_sem, q0, q1]
end Go.Proofs.YtekobdmlgbffnaaGreatDoor
