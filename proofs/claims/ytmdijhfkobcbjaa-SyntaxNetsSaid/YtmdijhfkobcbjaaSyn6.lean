/- syntax.Addr: its contract. -/
import Derived.Test.YtmdijhfkobcbjaaSyn5
import Derived.Test.YtmdijhfkobcbjaaSyn1
import Derived.ScopeJumps
import Derived.RangeFuncBox
import Derived.Test.YtmdijhfkobcbjaaWord
namespace Go.Proofs.Ytmdijhfkobcbjaa
set_option linter.unusedVariables false
set_option linter.unusedSimpArgs false
open Go.RowKit Go.Shelf
attribute [local go_sem] Oper.semAt_some

def vA (pre : List Pc) : Value := .int .u32 ((fA (pre.map (·.1))).1 : Int)
def vL (pre : List Pc) : Value := .int .i64 ((fA (pre.map (·.1))).2 : Int)

theorem vA_snoc (pre : List Pc) (x : Pc) : vA (pre ++ [x]) = .int .u32 (((fA (pre.map (·.1))).1 * 256 + (upToO 255 x.1.2).getD 0) % 4294967296 : Nat) := by
  unfold vA; rw [List.map_append]; simp only [List.map_cons, List.map_nil]; rw [fA_snoc]; rfl
theorem vL_snoc (pre : List Pc) (x : Pc) : vL (pre ++ [x]) = .int .i64 (x.1.1 : Int) := by
  unfold vL; rw [List.map_append]; simp only [List.map_cons, List.map_nil]; rw [fA_snoc]; rfl
theorem fA_lt (xs : List (Nat × ByteArray)) : (fA xs).1 < 4294967296 := by
  rcases List.eq_nil_or_concat xs with rfl | ⟨ys, y, rfl⟩
  · decide
  · rw [List.concat_eq_append, fA_snoc]; exact Nat.mod_lt _ (by omega)
theorem or_byte (a v : Nat) (ha : a < 4294967296) (hv : v ≤ 255) : bits .or .u32 ((a : Int) * 256 % 4294967296) (v : Int) = (((a * 256 + v) % 4294967296 : Nat) : Int) := by
  have e1 : (a : Int) * 256 % 4294967296 = ((a % 16777216 * 256 : Nat) : Int) := by omega
  rw [e1, w_or]
  unfold wor
  have e2 : a % 16777216 * 256 = (a % 16777216) <<< 8 := by rw [Nat.shiftLeft_eq]
  have e3 : (a % 16777216 * 256) ||| v = a % 16777216 * 256 + v := by
    rw [e2]; exact (Nat.shiftLeft_add_eq_or_of_lt (a := a % 16777216) (i := 8) (b := v) (by omega)).symm
  rw [e3]
  have e4 : (a % 16777216 * 256 + v) % 4294967296 = (a * 256 + v) % 4294967296 := by omega
  rw [e4]
theorem ownFrom_size {β : Type} (B m : Nat) : OwnFrom B (fun (_ : β) (W : World) => m ≤ W.heap.size) := fun _ _ _ _ hs hg _ => Nat.le_trans hs hg.size
theorem KeepsOthers.below {W W' : World} (h : Below W.heap.size W W') : KeepsOthers W W' := ⟨h.size, fun i o ho _ => (h.block i (Array.getElem?_eq_some_iff.1 ho).1).trans ho⟩

set_option maxRecDepth 100000 in
set_option maxHeartbeats 4000000 in
theorem addr_ok (s : ByteArray) (w : World) (hs : s.size ≤ 140737488355328) :
    Calls Try.prog 11 #[.string s] w fun e w' => e = .returned (.tuple #[.int .u32 ((addrO s).getD 0 : Nat), .bool (addrO s).isSome]) ∧ Below w.heap.size w w' := by
  obtain ⟨R, hR⟩ : ∃ R, R = addrO s := ⟨_, rfl⟩
  rw [← hR]
  have HR := Lib.hid hR
  clear hR
  refine (callsIn_wide (n := 6)).1 ?_
  refine callsIn_of_wp_marks Try.func11 rfl trivial ?_ rfl
  simp only [Try.ntmps11, List.size_toArray, List.length_cons, List.length_nil, Nat.reduceAdd, Nat.reduceSub, Array.replicate_succ, Array.replicate_zero, List.push_toArray, List.append_toArray, List.nil_append, List.cons_append]
  gi_wp2
  refine wpIn_wide.2 (wp_scope_jumps 0 (fun a u => ∃ D, a = { tmps := #[.string s, undef, .int .u32 0, .bool false, .pointer (some ⟨w.heap.size, 0, none⟩), .pointer (some ⟨w.heap.size + 1, 0, none⟩), undef, undef, undef, undef, .string s, .func (.func 36) #[] #[.pointer (some ⟨w.heap.size + 1 + 1, 0, none⟩), .pointer (some ⟨w.heap.size + 1 + 1 + 1, 0, none⟩)], undef, undef, undef, undef, undef, undef, undef, undef, undef, undef, undef, undef, undef, undef, undef, undef, undef, undef, undef, undef, undef, undef], defers := [{ target := .collected D, args := #[] }] } ∧ w.heap.size ≤ D ∧ u.heap[D]? = some (.deferred (some [])) ∧ Below w.heap.size w u ∧ R = none) (fun _ _ => 0) rfl ?first ?pass)
  case first =>
    refine (wpIn_wide (n := 6)).1 ?_
    gi_wp2_with (refine ⟨trivial, ?_⟩; gi_at_call 24; refine (callsIn_wide.2 (pieces_ok _ _ _)).mono ?_; rintro e w' ⟨rfl, rfl⟩)
    obtain ⟨W0, hW0⟩ : ∃ W0, (((w.alloc (.cells #[.int .u32 0] 22)).alloc (.cells #[.int .i64 0] 3)).alloc (.cells #[.string s] 9)).alloc (.cells #[.string ⟨#[46]⟩] 9) = W0 := ⟨_, rfl⟩
    have hz : W0.heap.size = w.heap.size + 4 := by rw [← hW0]; simp
    have hB0 : Below w.heap.size w W0 := by rw [← hW0]; go_grown
    have hk0 : Boxed W0 w.heap.size 22 (vA []) := by rw [← hW0]; exact (((Boxed.new w 22 _).alloc _).alloc _).alloc _
    have hk1 : Boxed W0 (w.heap.size + 1) 3 (vL []) := by
      have := Boxed.new (w.alloc (.cells #[.int .u32 0] 22)) 3 (.int .i64 0)
      rw [World.size_alloc] at this
      rw [← hW0]; exact (this.alloc _).alloc _
    have hk2 : Bk W0 (w.heap.size + 1 + 1) 9 #[.string s] := by
      have : Bk (((w.alloc (.cells #[.int .u32 0] 22)).alloc (.cells #[.int .i64 0] 3)).alloc (.cells #[.string s] 9)) (w.heap.size + 1 + 1) 9 #[.string s] := Bk.here (by simp)
      rw [← hW0]; exact this.alloc _
    have hk3 : Bk W0 (w.heap.size + 1 + 1 + 1) 9 #[.string ⟨#[46]⟩] := by rw [← hW0]; exact Bk.here (by simp)
    rw [hW0]
    clear hW0
    refine wpIn_rangeFunc_ownF rfl (by omega) (gf := 36) (lb := #[.pointer (some ⟨w.heap.size + 1 + 1, 0, none⟩), .pointer (some ⟨w.heap.size + 1 + 1 + 1, 0, none⟩)]) rfl trivial (enters_of Try.func36 (by kernel_rfl) rfl)
      (pieces1_stops 5 (by omega) (w.heap.size + 1 + 1) s 46 W0 hk2 hk3 hs) (fun h k => Kp2.t h k)
      (fun W l o o' hl ho _ _ => ⟨?kb1, ?kb2⟩) (Below.refl _ _) (fun _ => rfl)
      (fun pre W => Boxed W w.heap.size 22 (vA pre) ∧ Boxed W (w.heap.size + 1) 3 (vL pre) ∧ (∀ x ∈ pre, okA x.1 = true) ∧ w.heap.size + 4 ≤ W.heap.size ∧ Below w.heap.size w W)
      (fun c pre W => (c = .goto 0 ∧ ∃ x ∈ pre, okA x.1 = false) ∧ Below w.heap.size w W)
      (OwnFrom.and (Own.from (boxed_own _ _ _) _) (OwnFrom.and (Own.from (boxed_own _ _ _) _) (OwnFrom.and (ownFrom_pure _ _) (OwnFrom.and (ownFrom_size _ _) (ownFrom_below (Nat.le_refl _) (by omega))))))
      (fun c => OwnFrom.and (ownFrom_pure _ _) (ownFrom_below (Nat.le_refl _) (by omega)))
      ⟨hk0, hk1, (fun x hx => by cases hx), Nat.le_of_eq hz.symm, hB0⟩
      (fun x => { tmps := #[.string s, undef, .int .u32 0, .bool false, .pointer (some ⟨w.heap.size, 0, none⟩), .pointer (some ⟨w.heap.size + 1, 0, none⟩), .int .i64 (x.1.1 : Int), .string x.1.2, undef, undef, .string s, .func (.func 36) #[] #[.pointer (some ⟨w.heap.size + 1 + 1, 0, none⟩), .pointer (some ⟨w.heap.size + 1 + 1 + 1, 0, none⟩)], .int .i64 (x.1.1 : Int), .string x.1.2, undef, undef, undef, undef, undef, undef, undef, undef, undef, undef, undef, undef, undef, undef, undef, undef, undef, undef, undef, undef], defers := [] }) ?assign ?body ?done ?stop
    case kb1 => exact (grownBy_putObj' W l o').block _ (by have := (Array.getElem?_eq_some_iff.1 ho).1; omega) (fun e => by cases e; omega)
    case kb2 => exact (grownBy_putObj' W l o').block _ (by have := (Array.getElem?_eq_some_iff.1 ho).1; omega) (fun e => by cases e; omega)
    case assign =>
      intro l x W K hK
      gi_wp2
      exact hK
    case body =>
      rintro l pre x W ⟨hA, hL, hok, hWz, hB⟩ _
      have ca := hA.cell
      have fa := hA.frozen
      have cl := hL.cell
      have fl := hL.frozen
      obtain ⟨⟨k, P⟩, hP⟩ := x
      have HU := Lib.hid (fun u => upTo_ok 255 P u (by omega) hP)
      have hn1 : 1 ≤ 6 - 1 - 1 := by omega
      cases hu : upToO 255 P with
      | none =>
        rw [hu] at HU
        simp only [Option.getD_none, Option.isSome_none] at HU
        have HK := Lib.hid (show okA (k, P) = false by simp [okA, hu])
        clear hu
        gi_wp2_with (refine ⟨trivial, ?_⟩; gi_at_call 25; refine (CallsIn.inRound l (callsIn_wide.2 (HU.out _))).mono ?_; rintro e w2 ⟨rfl, hb2⟩)
        refine wpIn_goto ?_
        show KeepsOthers W w2 ∧ ((Code.goto 0 = .goto 0 ∧ ∃ y ∈ pre ++ [(⟨(k, P), hP⟩ : Pc)], okA y.1 = false) ∧ Below w.heap.size w w2)
        exact ⟨KeepsOthers.below hb2, ⟨rfl, _, List.mem_append.2 (.inr (List.mem_singleton.2 rfl)), HK.out⟩, hB.trans (hb2.mono hB.size)⟩
      | some v =>
        rw [hu] at HU
        simp only [Option.getD_some, Option.isSome_some] at HU
        have hv := (upToO_is _ _ _ hu).1
        by_cases h4 : k = 4
        · subst h4
          have HK := Lib.hid (show okA (4, P) = false by simp [okA])
          clear hu
          gi_wp2_with (refine ⟨trivial, ?_⟩; gi_at_call 25; refine (CallsIn.inRound l (callsIn_wide.2 (HU.out _))).mono ?_; rintro e w2 ⟨rfl, hb2⟩)
          refine wpIn_goto ?_
          show KeepsOthers W w2 ∧ ((Code.goto 0 = .goto 0 ∧ ∃ y ∈ pre ++ [(⟨(4, P), hP⟩ : Pc)], okA y.1 = false) ∧ Below w.heap.size w w2)
          exact ⟨KeepsOthers.below hb2, ⟨rfl, _, List.mem_append.2 (.inr (List.mem_singleton.2 rfl)), HK.out⟩, hB.trans (hb2.mono hB.size)⟩
        · have e4 : ((k : Int) == 4) = false := by rw [beq_eq_false_iff_ne]; omega
          have HK := Lib.hid (show okA (k, P) = true by simp [okA, hu, h4])
          obtain ⟨a, ha⟩ : ∃ a, (fA (pre.map (·.1))).1 = a := ⟨_, rfl⟩
          have hva : vA pre = .int .u32 (a : Int) := by rw [← ha]; rfl
          have ha2 : a < 4294967296 := by rw [← ha]; exact fA_lt _
          have HV := Lib.hid (show vA (pre ++ [(⟨(k, P), hP⟩ : Pc)]) = .int .u32 ((a * 256 + v) % 4294967296 : Nat) by rw [vA_snoc, ha, hu]; rfl)
          have HL2 := Lib.hid (vL_snoc pre ⟨(k, P), hP⟩)
          rw [hva] at hA ca
          obtain ⟨vl, hvl⟩ : ∃ vl, vL pre = vl := ⟨_, rfl⟩
          rw [hvl] at hL cl
          clear hu hva ha hvl h4
          gi_wp2_with (refine ⟨trivial, ?_⟩; gi_at_call 25; refine (CallsIn.inRound l (callsIn_wide.2 (HU.out _))).mono ?_; rintro e w2 ⟨rfl, hb2⟩; have hA2 := (hb2.block _ hA.lt).trans hA; have hL2 := (hb2.block _ hL.lt).trans hL; have ca2 := Boxed.cell hA2; have fa2 := Boxed.frozen hA2; have cl2 := Boxed.cell hL2; have fl2 := Boxed.frozen hL2)
          rw [or_byte a v ha2 hv, ← HV.out, ← HL2.out]
          have hs1 := (Boxed.set (vA (pre ++ [(⟨(k, P), hP⟩ : Pc)])) hA2).other (B' := w.heap.size + 1) (by omega) (vL (pre ++ [(⟨(k, P), hP⟩ : Pc)]))
          have hs2 := (Boxed.other hL2 (B' := w.heap.size) (by omega) (vA (pre ++ [(⟨(k, P), hP⟩ : Pc)]))).set (vL (pre ++ [(⟨(k, P), hP⟩ : Pc)]))
          refine ⟨(KeepsOthers.below hb2).trans ((KeepsOthers.setCell _ _ _).trans (KeepsOthers.setCell _ _ _)), ⟨?_, ?_⟩, hs1, hs2, ?_, ?_, ((hB.trans (hb2.mono hB.size)).setCell (p := ⟨w.heap.size, 0, none⟩) (Nat.le_refl _) _).setCell (p := ⟨w.heap.size + 1, 0, none⟩) (by show w.heap.size ≤ w.heap.size + 1; omega) _⟩
          · rw [Below.heap_setCell _ _ _ _ (by show w.heap.size + 1 + 1 ≠ w.heap.size + 1; omega), Below.heap_setCell _ _ _ _ (by show w.heap.size + 1 + 1 ≠ w.heap.size; omega)]
            exact hb2.block _ (by have := hWz; omega)
          · rw [Below.heap_setCell _ _ _ _ (by show w.heap.size + 1 + 1 + 1 ≠ w.heap.size + 1; omega), Below.heap_setCell _ _ _ _ (by show w.heap.size + 1 + 1 + 1 ≠ w.heap.size; omega)]
            exact hb2.block _ (by have := hWz; omega)
          · intro y hy
            rcases List.mem_append.1 hy with h | h
            · exact hok y h
            · obtain rfl : y = ⟨(k, P), hP⟩ := by simpa using h
              exact HK.out
          · have := hb2.size
            rw [World.size_setCell, World.size_setCell]; omega
    case done =>
      rintro D xs W hD hS ⟨hA, hL, hok, _, hB⟩ hK
      have hRv : R = if (fA (xs.map (·.1))).2 = 3 then some (fA (xs.map (·.1))).1 else none := by
        rw [HR.out]
        unfold addrO
        rw [hS]
        exact A_done _ (fun x hx => by rw [← hS] at hx; obtain ⟨y, hy, rfl⟩ := List.mem_map.1 hx; exact hok y hy)
      have ca := hA.cell
      have cl := hL.cell
      unfold vA at ca
      unfold vL at cl
      obtain ⟨a, ha⟩ : ∃ a, (fA (xs.map (·.1))).1 = a := ⟨_, rfl⟩
      obtain ⟨b, hb⟩ : ∃ b, (fA (xs.map (·.1))).2 = b := ⟨_, rfl⟩
      rw [ha] at ca hRv
      rw [hb] at cl hRv
      have HK := Lib.hid hK
      clear ha hb hA hL hok hS hK
      by_cases h3 : b = 3
      · subst h3
        have HRV := Lib.hid (show R = some a by rw [hRv]; rfl)
        clear hRv
        gi_wp2
        refine ⟨by simp, .inl ⟨_, _, rfl, run_takeDeferred HK.out, ?_⟩⟩
        rw [HRV.out]
        refine ⟨.tuple #[.int .u32 (a : Int), .bool true], ?_, rfl, hB.trans (belowK_b (w := w) (Nat.le_refl _) W D _ _ (by omega) HK.out rfl rfl)⟩
        simp [results, Try.f11, go_sem]
      · have e3 : ((b : Int) == 3) = false := by rw [beq_eq_false_iff_ne]; omega
        have HRV := Lib.hid (show R = none by rw [hRv, if_neg h3])
        clear hRv h3
        gi_wp2
        refine wpIn_label ?_
        gi_wp2
        refine ⟨by simp, .inl ⟨_, _, rfl, run_takeDeferred HK.out, ?_⟩⟩
        rw [HRV.out]
        refine ⟨.tuple #[.int .u32 0, .bool false], ?_, rfl, hB.trans (belowK_b (w := w) (Nat.le_refl _) W D _ _ (by omega) HK.out rfl rfl)⟩
        simp [results, Try.f11, go_sem]
    case stop =>
      rintro D c pre W hD hSp ⟨⟨rfl, x, hx, hbad⟩, hB⟩ hK
      have hRn : R = none := by
        rw [HR.out]
        exact A_stop _ _ hSp x.1 (List.mem_map.2 ⟨x, hx, rfl⟩) hbad
      refine wpIn_goto ?_
      refine ⟨rfl, D, rfl, by omega, hK, hB, hRn⟩
  case pass =>
    rintro a u ⟨D, rfl, hD, hK, hB, hRn⟩
    go_wp2
    refine ⟨by simp, .inl ⟨_, _, rfl, run_takeDeferred hK, ?_⟩⟩
    rw [hRn]
    refine ⟨.tuple #[.int .u32 0, .bool false], ?_, rfl, hB.trans (belowK_b (w := w) (Nat.le_refl _) u D _ _ (by omega) hK rfl rfl)⟩
    simp [results, Try.f11, go_sem]
end Go.Proofs.Ytmdijhfkobcbjaa
