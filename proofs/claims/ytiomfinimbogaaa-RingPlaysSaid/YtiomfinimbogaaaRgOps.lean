/- The calls that come in: a slice of structs of a number, a slice of bytes, and a number. -/
import Derived.Test.YtiomfinimbogaaaRing3
import Derived.Deep.Strs
namespace Go.Proofs.Ytiomfinimbogaaa
set_option linter.unusedVariables false
set_option linter.unusedSimpArgs false
open Go.ChangeShapes Go.WideShapes Go.ChangeAt Go.RowKit

/-- A call: what it is, the bytes of Add (where they lie, in a slice of which capacity), the number of Take. -/
structure OpM where
  what : Int
  A : Option Addr
  c : Nat
  l : List UInt8
  x : Int

/-- The bytes of a call lie below block B. -/
structure OpOk (w : World) (B : Nat) (m : OpM) : Prop where
  rb : Rb w B m.A m.l
  cap : m.l.length ≤ m.c
  max : m.c ≤ 9223372036854775807
  nil_ : m.A = none → m.l.length = 0 ∧ m.c = 0

/-- The slice at A reads as the calls L, and lies below block B. -/
def Ro (w : World) (B : Nat) (A : Option Addr) (L : List OpM) : Prop :=
  L = [] ∨ ∃ b o, A = some ⟨b, o, none⟩ ∧ b < B ∧ ∀ i, (h : i < L.length) → w.cell? ⟨b, o + i * 3, none⟩ = some (.int .i64 L[i].what) ∧ w.cell? ⟨b, o + i * 3 + 1, none⟩ = some (.slice L[i].A L[i].l.length L[i].c) ∧ w.cell? ⟨b, o + i * 3 + 2, none⟩ = some (.int .i64 L[i].x) ∧ OpOk w B L[i]

theorem OpOk.below {w w' : World} {B B' : Nat} {m : OpM} (h : OpOk w B m) (hb : Below B' w w') (hB : B ≤ B') : OpOk w' B m := ⟨h.rb.below hb hB, h.cap, h.max, h.nil_⟩
theorem Ro.below {w w' : World} {B B' : Nat} {A : Option Addr} {L : List OpM} (h : Ro w B A L) (hb : Below B' w w') (hB : B ≤ B') : Ro w' B A L := by
  rcases h with h | ⟨b, o, e, hlt, hc⟩
  · exact .inl h
  · refine .inr ⟨b, o, e, hlt, fun i hi => ?_⟩
    obtain ⟨h1, h2, h3, h4⟩ := hc i hi
    exact ⟨(hb.cell (p := ⟨b, o + i * 3, none⟩) (by show b < B'; omega)).trans h1, (hb.cell (p := ⟨b, o + i * 3 + 1, none⟩) (by show b < B'; omega)).trans h2, (hb.cell (p := ⟨b, o + i * 3 + 2, none⟩) (by show b < B'; omega)).trans h3, h4.below hb hB⟩

/-- A slice of calls that came in. -/
structure InO (W : World) (A : Option Addr) (L : List OpM) (n c : Nat) : Prop where
  ro : Ro W W.heap.size A L
  len : L.length = n
  cap : n ≤ c
  max : c ≤ maxLen
  nil_ : A = none → n = 0 ∧ c = 0

theorem Ro.at_ {w : World} {B : Nat} {A : Option Addr} {L : List OpM} (h : Ro w B A L) (i : Nat) (hi : i < L.length) :
    ∃ b o m, A = some ⟨b, o, none⟩ ∧ L[i]? = some m ∧ w.cell? ⟨b, o + i * 3, none⟩ = some (.int .i64 m.what) ∧ w.cell? ⟨b, o + i * 3 + 1, none⟩ = some (.slice m.A m.l.length m.c) ∧ w.cell? ⟨b, o + i * 3 + 2, none⟩ = some (.int .i64 m.x) ∧ OpOk w B m := by
  rcases h with h | ⟨b, o, e, _, hc⟩
  · subst h; simp at hi
  · exact ⟨b, o, L[i], e, List.getElem?_eq_getElem hi, hc i hi⟩

/-- A yes or a no; at a no there are few calls. -/
def GrB (n : Nat) (e : Ending) : Prop := ∃ v : Bool, e = .returned (.bool v) ∧ (v = false → n ≤ 400)

set_option maxRecDepth 100000 in
set_option maxHeartbeats 8000000 in
theorem ogreat_ok (A : Option Addr) (L : List OpM) (n c B : Nat) (w : World) (hR : Ro w B A L) (hl : L.length = n) (hn : n ≤ 9223372036854775807) :
    Calls Try.prog 12 #[.slice A n c] w fun e w' => GrB n e ∧ w' = w := by
  have HR := Lib.hid hR
  have HL := Lib.hid hl
  clear hR hl
  go_enter Try.func12, Try.ntmps12
  go_wp2_with fail
  go_loopw [3, 4] (fun v3 v4 wr => ∃ i k : Nat, i ≤ n ∧ v3 = .int .i64 (k : Int) ∧ v4 = .int .i64 (i : Int) ∧ k ≤ n + 60000 ∧ wr = w) (fun _ v4 _ => n - (intOf v4).toNat)
  case atStart => exact ⟨0, n, by omega, rfl, rfl, by omega, rfl⟩
  case round =>
    obtain ⟨i, k, hi, rfl, rfl, hk, rfl⟩ := hrel
    by_cases hi1 : i < n
    · have hi2 : (i : Int) < (n : Int) := by omega
      by_cases hk1 : k < 30000
      · have hk2 : (k : Int) < 30000 := by omega
        obtain ⟨b, o, m, rfl, _, c0, c1, c2, ho⟩ := HR.out.at_ i (by rw [HL.out]; exact hi1)
        obtain ⟨lm, hlm⟩ : ∃ lm, m.l.length = lm := ⟨_, rfl⟩
        rw [hlm] at c1
        obtain ⟨q, hq⟩ : ∃ q, min lm 30000 = q := ⟨_, rfl⟩
        have HQ := Lib.hid (show min (lm : Int) 30000 = (q : Int) by omega)
        have hq2 : q ≤ 30000 := by omega
        clear hk hlm hq ho
        go_wp2_with (refine wpList_min rfl (.tmp 23) (.const (.int .i64 30000)) 3 rfl _ _ _ rfl rfl HQ.out ?_)
        go_roundw
        case rel => exact ⟨i + 1, k + q, by omega, by go_num, by go_num, by omega, by trivial⟩
        case measure => simp [intOf]; omega
      · have hk2 : ¬ (k : Int) < 30000 := by omega
        have hk3 : (30000 : Int) ≤ (k : Int) := by omega
        go_wp2_with fail
        go_ret
        exact ⟨⟨true, rfl, fun h => by cases h⟩, rfl⟩
    · have hi2 : ¬ (i : Int) < (n : Int) := by omega
      by_cases hk1 : k < 30000
      · have hk2 : ¬ (30000 : Int) ≤ (k : Int) := by omega
        go_wp2_with fail
        go_ret
        refine ⟨⟨_, rfl, fun h => ?_⟩, rfl⟩
        simp at h
        omega
      · have hk3 : (30000 : Int) ≤ (k : Int) := by omega
        go_wp2_with fail
        go_ret
        exact ⟨⟨true, rfl, fun h => by cases h⟩, rfl⟩
end Go.Proofs.Ytiomfinimbogaaa
