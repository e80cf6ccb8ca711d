/- IKeys, Oi, CnA, CnL, CnIn, SpTwo, Cat: texts of this seat, one behind the other. -/
import Derived.Shelf.SlIterI.Sorted
import Derived.Shelf.SlIterI.Nil
import Derived.Shelf.SortM.Plain
import Derived.Shelf.SortM.SortNone
import Derived.Ground.GgzProg
import Derived.Ground.SlgmProg
import Derived.Test.YtndamiocmdnenaaGreatProg
import Derived.Test.YtndamiocmdnenaaGreatG3
import Derived.Test.YtndamiocmdnenaaGreatG1
import Derived.Deep.QuietTactic
import Derived.Test.YtndamiocmdnenaaGreatCnZ2
import Derived.Test.YtndamiocmdnenaaGreatCnZ3
import Derived.Test.YtndamiocmdnenaaGreatCnZN
import Derived.Test.YtndamiocmdnenaaGreatCnO
import Derived.Test.YtndamiocmdnenaaGreatG2
import Derived.Deep.Strs
import Derived.Deep.SlicePairs
import Derived.Laws.Concat
/- Contracts of slices.Sorted and maps.Keys (keys that are ints) over this program, laid by the kit's own command. (Written by gen_ikeys.py.) -/
namespace Go.Proofs
open Go.RowKit Go.Maps Go.Sort Go.Shelf
def Tryz.keys46_ren : Go.Shelf.Ren := ⟨fun | 7 => 46 | 10 => 84 | n => n, fun | 23 => 49 | 26 => 3 | 3 => 61 | 28 => 59 | 0 => 0 | 27 => 58 | 33 => 47 | 4 => 4 | n => n, fun | n => n⟩
theorem Tryz.keys46 : Go.Proofs.SlLaysZI.n7 Tryz.prog Tryz.keys46_ren := {
  mixed := by kernel_rfl
  f7 := ⟨Tryz.f46.name, by decide, Tryz.func46.trans (congrArg some (by kernel_rfl))⟩
  f10 := ⟨Tryz.f84.name, by decide, Tryz.func84.trans (congrArg some (by kernel_rfl))⟩
  t0 := Tryz.underlying0
  a0 := Tryz.isAgg0
  z0 := Tryz.sizeOf0
  v0 := Tryz.zeroValue0
  t4 := Tryz.underlying4
  a4 := Tryz.isAgg4
  z4 := Tryz.sizeOf4
  v4 := Tryz.zeroValue4
  t23 := Tryz.underlying49
  a23 := Tryz.isAgg49
  z23 := Tryz.sizeOf49
  v23 := Tryz.zeroValue49
  t26 := Tryz.underlying3
  a26 := Tryz.isAgg3
  z26 := Tryz.sizeOf3
  v26 := Tryz.zeroValue3
  t27 := Tryz.underlying58
  a27 := Tryz.isAgg58
  z27 := Tryz.sizeOf58
  v27 := Tryz.zeroValue58
  t28 := Tryz.underlying59
  a28 := Tryz.isAgg59
  z28 := Tryz.sizeOf59
  v28 := Tryz.zeroValue59
  t33 := Tryz.underlying47
  a33 := Tryz.isAgg47
  z33 := Tryz.sizeOf47
  v33 := Tryz.zeroValue47 }
def Tryz.sorted45_ren : Go.Shelf.Ren := ⟨fun | 6 => 45 | 8 => 82 | 9 => 83 | 11 => 91 | 13 => 93 | 12 => 92 | 23 => 105 | 24 => 106 | 14 => 96 | 15 => 97 | 16 => 98 | 17 => 99 | 18 => 100 | 19 => 101 | 20 => 102 | 21 => 103 | 22 => 104 | 25 => 108 | 26 => 109 | 27 => 110 | 28 => 111 | 29 => 112 | 30 => 113 | 31 => 114 | n => n, fun | 26 => 3 | 28 => 59 | 24 => 35 | 0 => 0 | 3 => 3 | 37 => 99 | 48 => 40 | 50 => 111 | 4 => 4 | 40 => 103 | 39 => 102 | 45 => 107 | 5 => 5 | 9 => 9 | 51 => 112 | 55 => 116 | 57 => 118 | 58 => 119 | 33 => 47 | n => n, fun | n => n⟩
theorem Tryz.sorted45 : Go.Proofs.SlLaysZI.n6 Tryz.prog Tryz.sorted45_ren := {
  mixed := by kernel_rfl
  f6 := ⟨Tryz.f45.name, by decide, Tryz.func45.trans (congrArg some (by kernel_rfl))⟩
  f8 := ⟨Tryz.f82.name, by decide, Tryz.func82.trans (congrArg some (by kernel_rfl))⟩
  f11 := ⟨Tryz.f91.name, by decide, Tryz.func91.trans (congrArg some (by kernel_rfl))⟩
  t0 := Tryz.underlying0
  a0 := Tryz.isAgg0
  z0 := Tryz.sizeOf0
  v0 := Tryz.zeroValue0
  t24 := Tryz.underlying35
  a24 := Tryz.isAgg35
  z24 := Tryz.sizeOf35
  v24 := Tryz.zeroValue35
  t26 := Tryz.underlying3
  a26 := Tryz.isAgg3
  z26 := Tryz.sizeOf3
  v26 := Tryz.zeroValue3
  t28 := Tryz.underlying59
  a28 := Tryz.isAgg59
  z28 := Tryz.sizeOf59
  v28 := Tryz.zeroValue59
  i26 := by kernel_rfl }
def Tryz.sort83_ren : Go.Shelf.Ren := ⟨fun | 5 => 83 | 8 => 93 | 7 => 92 | 19 => 105 | 20 => 106 | 10 => 96 | 11 => 97 | 12 => 98 | 13 => 99 | 14 => 100 | 15 => 101 | 16 => 102 | 17 => 103 | 18 => 104 | 30 => 108 | 31 => 109 | 32 => 110 | 33 => 111 | 34 => 112 | 35 => 113 | 40 => 114 | n => n, fun | 23 => 35 | 25 => 3 | 3 => 3 | 32 => 99 | 22 => 35 | 0 => 0 | 44 => 40 | 46 => 111 | 4 => 4 | 36 => 103 | 35 => 102 | 41 => 107 | 5 => 5 | 9 => 9 | 53 => 112 | 57 => 116 | 63 => 118 | 64 => 119 | n => n, fun | n => n⟩
theorem Tryz.sort83 : Go.Proofs.SlLaysM.n5 Tryz.prog Tryz.sort83_ren := {
  mixed := by kernel_rfl
  f5 := ⟨Tryz.f83.name, by decide, Tryz.func83.trans (congrArg some (by kernel_rfl))⟩
  f7 := ⟨Tryz.f92.name, by decide, Tryz.func92.trans (congrArg some (by kernel_rfl))⟩
  f8 := Tryz.func93.trans (congrArg some (by kernel_rfl))
  f10 := ⟨Tryz.f96.name, by decide, Tryz.func96.trans (congrArg some (by kernel_rfl))⟩
  f11 := ⟨Tryz.f97.name, by decide, Tryz.func97.trans (congrArg some (by kernel_rfl))⟩
  f12 := ⟨Tryz.f98.name, by decide, Tryz.func98.trans (congrArg some (by kernel_rfl))⟩
  f13 := ⟨Tryz.f99.name, by decide, Tryz.func99.trans (congrArg some (by kernel_rfl))⟩
  f14 := ⟨Tryz.f100.name, by decide, Tryz.func100.trans (congrArg some (by kernel_rfl))⟩
  f15 := ⟨Tryz.f101.name, by decide, Tryz.func101.trans (congrArg some (by kernel_rfl))⟩
  f16 := ⟨Tryz.f102.name, by decide, Tryz.func102.trans (congrArg some (by kernel_rfl))⟩
  f17 := ⟨Tryz.f103.name, by decide, Tryz.func103.trans (congrArg some (by kernel_rfl))⟩
  f18 := ⟨Tryz.f104.name, by decide, Tryz.func104.trans (congrArg some (by kernel_rfl))⟩
  f19 := Tryz.func105.trans (congrArg some (by kernel_rfl))
  f20 := Tryz.func106.trans (congrArg some (by kernel_rfl))
  f30 := ⟨Tryz.f108.name, by decide, Tryz.func108.trans (congrArg some (by kernel_rfl))⟩
  f31 := Tryz.func109.trans (congrArg some (by kernel_rfl))
  f32 := Tryz.func110.trans (congrArg some (by kernel_rfl))
  f33 := ⟨Tryz.f111.name, by decide, Tryz.func111.trans (congrArg some (by kernel_rfl))⟩
  f34 := ⟨Tryz.f112.name, by decide, Tryz.func112.trans (congrArg some (by kernel_rfl))⟩
  f35 := ⟨Tryz.f113.name, by decide, Tryz.func113.trans (congrArg some (by kernel_rfl))⟩
  f40 := ⟨Tryz.f114.name, by decide, Tryz.func114.trans (congrArg some (by kernel_rfl))⟩
  t0 := Tryz.underlying0
  a0 := Tryz.isAgg0
  z0 := Tryz.sizeOf0
  v0 := Tryz.zeroValue0
  t3 := Tryz.underlying3
  a3 := Tryz.isAgg3
  z3 := Tryz.sizeOf3
  v3 := Tryz.zeroValue3
  t4 := Tryz.underlying4
  a4 := Tryz.isAgg4
  z4 := Tryz.sizeOf4
  v4 := Tryz.zeroValue4
  t5 := Tryz.underlying5
  a5 := Tryz.isAgg5
  z5 := Tryz.sizeOf5
  v5 := Tryz.zeroValue5
  t9 := Tryz.underlying9
  a9 := Tryz.isAgg9
  z9 := Tryz.sizeOf9
  v9 := Tryz.zeroValue9
  t22 := Tryz.underlying35
  a22 := Tryz.isAgg35
  z22 := Tryz.sizeOf35
  v22 := Tryz.zeroValue35
  t23 := Tryz.underlying35
  a23 := Tryz.isAgg35
  z23 := Tryz.sizeOf35
  v23 := Tryz.zeroValue35
  t25 := Tryz.underlying3
  a25 := Tryz.isAgg3
  z25 := Tryz.sizeOf3
  v25 := Tryz.zeroValue3
  t32 := Tryz.underlying99
  a32 := Tryz.isAgg99
  z32 := Tryz.sizeOf99
  v32 := Tryz.zeroValue99
  t35 := Tryz.underlying102
  a35 := Tryz.isAgg102
  z35 := Tryz.sizeOf102
  v35 := Tryz.zeroValue102
  t36 := Tryz.underlying103
  a36 := Tryz.isAgg103
  z36 := Tryz.sizeOf103
  v36 := Tryz.zeroValue103
  t41 := Tryz.underlying107
  a41 := Tryz.isAgg107
  z41 := Tryz.sizeOf107
  v41 := Tryz.zeroValue107
  t44 := Tryz.underlying40
  a44 := Tryz.isAgg40
  z44 := Tryz.sizeOf40
  v44 := Tryz.zeroValue40
  t46 := Tryz.underlying111
  a46 := Tryz.isAgg111
  z46 := Tryz.sizeOf111
  v46 := Tryz.zeroValue111
  t53 := Tryz.underlying112
  a53 := Tryz.isAgg112
  z53 := Tryz.sizeOf112
  v53 := Tryz.zeroValue112
  t57 := Tryz.underlying116
  a57 := Tryz.isAgg116
  z57 := Tryz.sizeOf116
  v57 := Tryz.zeroValue116
  t63 := Tryz.underlying118
  a63 := Tryz.isAgg118
  z63 := Tryz.sizeOf118
  v63 := Tryz.zeroValue118
  t64 := Tryz.underlying119
  a64 := Tryz.isAgg119
  z64 := Tryz.sizeOf119
  v64 := Tryz.zeroValue119 }
theorem Tryz.sorts45 (m : Nat) : AnyZI.SortsIn Tryz.prog Tryz.sorted45_ren Fence.wide m :=
  ⟨fun blk off cap ss W hH hblk hsz => callsIn_wide.2 (AnyM.slices_Sort_int Tryz.sort83 blk off cap ss W hH hblk hsz),
   fun p cap W => callsIn_wide.2 (AnyM.slices_Sort_int_none Tryz.sort83 p cap W)⟩

theorem Tryz.maps_Keys_i (mb : Option Nat) (W : World) : CallsIn Fence.wide 5 Tryz.prog 46 #[.map mb] W fun e w' => e = .returned (.func (.func 84) #[] #[.pointer (some ⟨W.heap.size, 0, none⟩)]) ∧ w' = W.alloc (.cells #[.map mb] 49) :=
  AnyZI.keys_in Tryz.keys46 Fence.wide 5 trivial rfl mb W

set_option maxHeartbeats 1000000 in
theorem Tryz.slices_Sorted_keys_i {H : Type} (b nn : Nat) (D0 : DataW H) (R : Value → Option (DataW H × List MemPlace)) (w : World) (hown : w.ownsMap Tryz.prog 3 R b nn D0) (hmax : Maps.size D0 ≤ maxLen) (hbytes : Maps.size D0 * 8 ≤ 140737488355328) :
    CallsIn Fence.wide 5 Tryz.prog 45 #[.func (.func 84) #[] #[.pointer (some ⟨w.heap.size, 0, none⟩)]] (w.alloc (.cells #[.map (some b)] 49)) fun e w' => ∃ (v : Value) (ss : List Int), e = .returned v ∧ ss.Perm (intKeys D0) ∧
      w'.ownsRow (w.alloc (.cells #[.map (some b)] 49)).heap.size 3 1 v ss.length ((ss.mergeSort (fun x y => decide (x ≤ y))).map encZ) ∧ (v = .slice none 0 0 ↔ ss = []) ∧ Below (w.alloc (.cells #[.map (some b)] 49)).heap.size (w.alloc (.cells #[.map (some b)] 49)) w' := by
  have hbl := hown.lt
  have hseq : SeqGives Fence.wide 2 Tryz.prog 84 #[.pointer (some ⟨w.heap.size, 0, none⟩)] encZ (fun ss => ss.Perm (intKeys D0)) (Maps.size D0) (w.alloc (.cells #[.map (some b)] 49)) :=
    AnyZI.keys_gives (ρ := Tryz.keys46_ren) { Tryz.keys46 with } Fence.wide _ trivial rfl (by omega) w.heap.size b nn D0 _ (by simp) (by simp) (by
      obtain ⟨es, clock, hb, Ft, hs, hD⟩ := hown
      exact ⟨es, clock, (Below.heap_alloc _ _ b hbl).trans hb, Ft, hs, hD⟩)
  exact AnyZI.sorted_in Tryz.sorted45 Fence.wide 5 trivial trivial trivial trivial rfl (by omega) (Tryz.sorts45 _) (enters_of Tryz.func83 (by kernel_rfl) rfl) 84 #[.pointer (some ⟨w.heap.size, 0, none⟩)] trivial (enters_of Tryz.func84 (by kernel_rfl) rfl) _ _ hmax hbytes _ hseq
end Go.Proofs

/- Rows of numbers: owned, read, appended, compared (the document's Same). -/
namespace Go.Proofs.YtndamiocmdnenaaGreat
set_option linter.unusedVariables false
set_option maxRecDepth 100000
set_option linter.unusedSimpArgs false
open Go.RowKit

abbrev i64s (L : List Int) : List Value := L.map (fun x => Value.int .i64 x)
/-- The slice at A, of capacity c, owns the numbers L: it lies at block B or behind it. -/
def OI (w : World) (B : Nat) (A : Option Addr) (c : Nat) (L : List Int) : Prop := w.ownsRow B 3 1 (.slice A L.length c) L.length (i64s L)
theorem OI.nil (w : World) (B : Nat) : OI w B none 0 [] := World.ownsRow_nil w B 3 1
theorem OI.ke {w w' : World} {B : Nat} {A : Option Addr} {c : Nat} {L : List Int} {K : List Nat} (h : OI w B A c L) (k : Ke K w w') (hK : ∀ x ∈ K, x < B) : OI w' B A c L := by
  refine ⟨h.1, ?_⟩
  rcases h.2 with hn | ⟨g, cap, cur, hv, hg, hh, r⟩
  · exact .inl hn
  · refine .inr ⟨g, cap, cur, hv, hg, ?_, r⟩
    rw [k.block g (lt_of_block hh) (fun hx => by have := hK g hx; omega)]
    exact hh
theorem i64_info : (Tryz.prog.info? 3).map (fun i => (i.zero, i.size, i.bytes)) = some (some (.int .i64 0), 1, 8) := by kernel_rfl

/-- One number more. -/
theorem wp_app_int {ops : Array Oper} {rest : List Oper} {o : Oper} {a : Act} {Q : Exit → Act → World → Prop} {w : World} (hgd : o.guard = none) (s x : Operand)
    (ho : o.op = .call { callee := .builtin .append, args := #[s, x], argTypes := #[35, 35] }) (B : Nat) (L : List Int) (A : Option Addr) (n c : Nat) (hs : a.eval s = .slice A n c) (hn : L.length = n) (hown : OI w B A c L)
    (v : Int) (b : Nat) (hx : a.eval x = .slice (some ⟨b, 0, none⟩) 1 1) (hb : w.cell? ⟨b, 0, none⟩ = some (.int .i64 v)) (hlen : n ≤ 1048576) (hbase : B ≤ w.heap.size)
    (n' : Nat) (hn' : n' = n + 1)
    (h : ∀ A2 c2 w', OI w' B A2 c2 (L ++ [v]) → Below B w w' → wpList Tryz.prog ops Q rest (a.put o.dst (.slice A2 n' c2)) w') : wpList Tryz.prog ops Q (o :: rest) a w := by
  obtain ⟨i0, hi1, hz0, hs0, hb0⟩ := info_parts i64_info
  subst hn
  subst hn'
  refine wpList_append_own w hgd s x 35 ho B 3 i0 (.int .i64 0) 1 8 Tryz.underlying35 hi1 hz0 hs0 hb0 rfl (by decide) _ L.length (i64s L) hs hown ⟨b, 0, none⟩ 1 1 [.int .i64 v] hx rfl ?_ (by simp [Value.oneCell']) (by unfold maxLen; omega) (by omega) hbase ?_
  · intro j u hu
    have hj : j = 0 := by
      rcases Nat.eq_zero_or_pos j with h0 | h0
      · exact h0
      · rw [List.getElem?_eq_none (by simp; omega)] at hu; cases hu
    subst hj
    simp at hu
    subst hu
    rw [add_plain]
    exact hb
  · intro v' w' hown' hg _
    have hbel : Below B w w' := (Below.refl B w).grown hg hbase (fun k hk => (World.ownsRow.lt hown k hk).1)
    have hp : 0 < L.length + 1 := by omega
    obtain ⟨g, cap, rfl, _, _⟩ := World.ownsRow.form hown' hp
    refine h (some ⟨g, 0, none⟩) cap w' ?_ hbel
    unfold OI
    rw [List.length_append, show i64s (L ++ [v]) = i64s L ++ [.int .i64 v] by simp]
    exact hown'

theorem Ke.andBelow {L : List Nat} {u w w' : World} {B : Nat} (h : Ke L u w) (k : Below B w w') (hB : u.heap.size ≤ B) : Ke L u w' :=
  ⟨k.os.trans h.os, k.tape.trans h.tape, k.output.trans h.output, Nat.le_trans h.size k.size, fun i hi hL => (k.block i (by omega)).trans (h.block i hi hL)⟩

theorem Ke.drewN {L : List Nat} {a b : World} (h : Ke L a b) (n : Nat) : Ke L a (b.drewN n) := ⟨h.os, h.tape, h.output, h.size, h.block⟩
/-- The slice at A reads as the numbers l, and lies in none of the blocks of K. -/
def Ri (w : World) (K : List Nat) (A : Option Addr) (l : List Int) : Prop :=
  l = [] ∨ ∃ b o, A = some ⟨b, o, none⟩ ∧ b ∉ K ∧ b < w.heap.size ∧ ∀ i, (h : i < l.length) → w.cell? ⟨b, o + i, none⟩ = some (.int .i64 l[i])

theorem Ri.step {w w' : World} {G G' : List Nat} {A : Option Addr} {l : List Int} (h : Ri w G A l) (s : Sp w w' G G') : Ri w' G' A l := by
  rcases h with h | ⟨b, o, e, hn, hb, hc⟩
  · exact .inl h
  · refine .inr ⟨b, o, e, fun hx => ?_, Nat.lt_of_lt_of_le hb s.k.size, fun i hi => (World.cell?_of_block (w := w) (a := ⟨b, o + i, none⟩) (s.k.block b hb hn)).trans (hc i hi)⟩
    rcases s.g b hx with h1 | h1
    · exact hn h1
    · omega
theorem Ri.at_ {w : World} {K : List Nat} {A : Option Addr} {l : List Int} (h : Ri w K A l) {i : Nat} (hi : i < l.length) : ∃ b o x, A = some ⟨b, o, none⟩ ∧ w.cell? ⟨b, o + i, none⟩ = some (.int .i64 x) ∧ l[i]? = some x := by
  rcases h with h | ⟨b, o, e, _, _, hc⟩
  · subst h; simp at hi
  · exact ⟨b, o, l[i], e, hc i hi, List.getElem?_eq_getElem hi⟩
theorem OI.ri {w : World} {B : Nat} {A : Option Addr} {c : Nat} {l : List Int} {K : List Nat} (h : OI w B A c l) (hK : ∀ x ∈ K, x < B) : Ri w K A l := by
  by_cases h0 : l = []
  · exact .inl h0
  · have hp : 0 < l.length := List.length_pos_iff.2 h0
    obtain ⟨g, cap, hv, hb, hl⟩ := World.ownsRow.form h hp
    injection hv with h1 _ _
    subst h1
    refine .inr ⟨g, 0, rfl, fun hx => by have := hK g hx; omega, hl, fun i hi => ?_⟩
    have := World.ownsRow.cellAt h i (by omega)
    rw [Nat.zero_add, this]
    simp [hi]
theorem OI.cap {w : World} {B : Nat} {A : Option Addr} {c : Nat} {l : List Int} (h : OI w B A c l) : l.length ≤ c ∧ c ≤ 9223372036854775807 ∧ (A = none → l.length = 0 ∧ c = 0) := by
  rcases h.2 with ⟨hv, h0⟩ | ⟨g, cap, cur, hv, _, _, hn, hm, _⟩
  · injection hv with h1 _ h3
    exact ⟨by omega, by omega, fun _ => ⟨h0, h3⟩⟩
  · injection hv with h1 _ h3
    unfold maxLen at hm
    exact ⟨by omega, by omega, fun e => by rw [e] at h1; cases h1⟩
/-- A row of constant numbers that was just laid. -/
theorem Ri.lit {w : World} {K : List Nat} (l : List Int) (cs : Array Value) (hcs : cs = (i64s l).toArray) (hK : ∀ y ∈ K, y < w.heap.size) : Ri (w.alloc (.cells cs 3)) K (some ⟨w.heap.size, 0, none⟩) l := by
  subst hcs
  refine .inr ⟨w.heap.size, 0, rfl, fun hx => by have := hK _ hx; omega, by rw [World.size_alloc]; omega, fun i hi => ?_⟩
  rw [(Bk.new w 3 _).cell, Nat.zero_add]
  simp [hi]

set_option maxRecDepth 100000 in
set_option maxHeartbeats 4000000 in
theorem oisame_ok (A A' : Option Addr) (cp cp' : Nat) (L L' : List Int) (K K' : List Nat) (u : World) (n m : Nat) (hn : L.length = n) (hm : L'.length = m) (hR : Ri u K A L) (hR' : Ri u K' A' L') (hc : n ≤ 9223372036854775807) (hc' : m ≤ 9223372036854775807) :
    Calls Tryz.prog 10 #[.slice A n cp, .slice A' m cp'] u fun e u' => e = .returned (.bool (decide (L = L'))) ∧ Ke [] u u' := by
  by_cases hnm : n = m
  · subst hnm
    have HA := Lib.hid (And.intro hR hR')
    have HL := Lib.hid (And.intro hn hm)
    clear hR hR' hn hm
    go_enter Tryz.func10, Tryz.ntmps10
    go_wp2_with fail
    go_loopw [5] (fun v5 wr => ∃ i : Nat, i ≤ n ∧ v5 = .int .i64 (i : Int) ∧ Hid (Ke [] u wr ∧ ∀ j, j < i → L[j]? = L'[j]?)) (fun v5 _ => n - (intOf v5).toNat)
    case atStart => exact ⟨0, by omega, rfl, Lib.hid ⟨Ke.refl _ _, fun j hj => by omega⟩⟩
    case round =>
      obtain ⟨i, hi, rfl, HR⟩ := hrel
      by_cases hin : i < n
      · have hi2 : (i : Int) < (n : Int) := by omega
        obtain ⟨b, o, x, rfl, c1, hx⟩ := (HA.out.1.step (G' := K) (Sp.of (HR.out.1.nil))).at_ (i := i) (by rw [HL.out.1]; exact hin)
        obtain ⟨b', o', y, rfl, c2, hy⟩ := (HA.out.2.step (G' := K') (Sp.of (HR.out.1.nil))).at_ (i := i) (by rw [HL.out.2]; exact hin)
        have HXY := Lib.hid (And.intro hx hy)
        clear hx hy
        by_cases hxy : x = y
        · subst hxy
          go_wp2_with fail
          go_quiet (fail)
          go_wp2_with fail
          go_roundw
          case rel => exact ⟨i + 1, by omega, by go_num, Lib.hid ⟨HR.out.1.drewN _, fun j hj => by
            by_cases e : j = i
            · subst e; rw [HXY.out.1, HXY.out.2]
            · exact HR.out.2 j (by omega)⟩⟩
          case measure => simp [intOf]; omega
        · have hbe : (x == y) = false := by simp [hxy]
          have HNE := Lib.hid (show decide (L = L') = false by
            simp only [decide_eq_false_iff_not]
            intro e
            have h1 := HXY.out.1
            rw [e, HXY.out.2] at h1
            injection h1 with h1
            exact hxy h1.symm)
          go_wp2_with fail
          go_quiet (fail)
          go_wp2_with fail
          go_ret
          exact ⟨by rw [HNE.out]; rfl, HR.out.1.drewN _⟩
      · have hi2 : ¬ (i : Int) < (n : Int) := by omega
        have hd : decide ((i : Int) < (n : Int)) = false := by simp; omega
        have HEQ := Lib.hid (show decide (L = L') = true by
          simp only [decide_eq_true_eq]
          apply List.ext_getElem?
          intro j
          by_cases hj : j < i
          · exact HR.out.2 j hj
          · rw [List.getElem?_eq_none (by rw [HL.out.1]; omega), List.getElem?_eq_none (by rw [HL.out.2]; omega)])
        go_wp2_with fail
        go_ret
        exact ⟨by rw [HEQ.out]; rfl, HR.out.1⟩
  · have HNE := Lib.hid (show decide (L = L') = false by
      simp only [decide_eq_false_iff_not]
      intro e
      rw [e] at hn
      omega)
    have h1 : ¬ (n : Int) = (m : Int) := by omega
    have hbe : ((n : Int) == (m : Int)) = false := by simp; omega
    clear hR hR' hn hm
    go_enter Tryz.func10, Tryz.ntmps10
    go_wp2_with fail
    go_ret
    exact ⟨by rw [HNE.out]; rfl, Ke.refl _ _⟩

theorem Ri.below {u u' : World} {K : List Nat} {A : Option Addr} {l : List Int} {B : Nat} (h : Ri u K A l) (k : Below B u u') (hB : u.heap.size ≤ B) : Ri u' K A l := by
  rcases h with h | ⟨b, o, e, hn, hb, hc⟩
  · exact .inl h
  · exact .inr ⟨b, o, e, hn, Nat.lt_of_lt_of_le hb k.size, fun i hi => (k.cell (p := ⟨b, o + i, none⟩) (Nat.lt_of_lt_of_le hb hB)).trans (hc i hi)⟩
/-- []int{}. -/
theorem OI.empty (w : World) : OI (w.alloc (.cells #[] 3)) w.heap.size (some ⟨w.heap.size, 0, none⟩) 0 [] := by
  have := World.ownsRow_made (base := w.heap.size) (e := 3) (size := 1) w #[] 0 (Nat.le_refl _) (by unfold maxLen; omega) (by simp)
  exact this

/-- append of all that a row of numbers reads as, be it nil, as one operation. -/
theorem op_appi {o : Oper} {a : Act} {K : Act → World → Prop} {Q : Exit → Act → World → Prop} {w : World} (s x : Operand)
    (ho : o.op = .call { callee := .builtin .append, args := #[s, x], argTypes := #[35, 35] }) (B : Nat) (L : List Int) (A : Option Addr) (n c : Nat) (hs : a.eval s = .slice A n c) (hn : L.length = n) (hown : OI w B A c L)
    (M : List Int) (A' : Option Addr) (m c' : Nat) (hx : a.eval x = .slice A' m c') (hm : M.length = m) (hnil : A' = none → m = 0 ∧ c' = 0) (KK : List Nat) (hR : Ri w KK A' M)
    (hlen : n + m ≤ 1048576) (hbase : B ≤ w.heap.size) (s' : Nat) (hsum : n + m = s')
    (h : ∀ A2 c2 w', OI w' B A2 c2 (L ++ M) → Below B w w' → K (a.put o.dst (.slice A2 s' c2)) w') : o.wp Tryz.prog a w K Q := by
  obtain ⟨i0, hi1, hz0, hs0, hb0⟩ := info_parts i64_info
  subst hn; subst hm; subst hsum
  cases A' with
  | none =>
    obtain ⟨h0, h1⟩ := hnil rfl
    have hk : M = [] := List.eq_nil_of_length_eq_zero h0
    subst hk
    subst h1
    have hrun := run_append_owned_none (P := Tryz.prog) (w := w) B 35 o.type 3 i0 1 Tryz.underlying35 hi1 _ L.length (i64s L) hown
    have := h A c w (by rw [List.append_nil]; exact hown) (Below.refl B w)
    unfold Oper.wp
    simp [execOp, ho, resolve, invoke, builtin, hs, hx, hrun, Result.andThen]
    exact (by simpa using this : K (a.put o.dst (Value.slice A L.length c)) w)
  | some ad =>
    refine wp_append_own w s x 35 ho B 3 i0 (.int .i64 0) 1 8 Tryz.underlying35 hi1 hz0 hs0 hb0 rfl (by decide) _ L.length (i64s L) hs hown ad M.length c' (i64s M) hx (by simp) ?_ ?_ (by unfold maxLen; omega) (by omega) hbase ?_
    · intro j u hu
      have hj : j < M.length := by
        rcases Nat.lt_or_ge j M.length with h1 | h1
        · exact h1
        · rw [List.getElem?_eq_none (by simpa using h1)] at hu; cases hu
      rcases hR with h0 | ⟨b, off, e1, _, _, hc⟩
      · subst h0; simp at hj
      · injection e1 with e1
        subst e1
        rw [add_plain, hc j hj]
        simp [hj] at hu
        exact congrArg some hu
    · intro u hu
      obtain ⟨y, _, rfl⟩ := List.mem_map.1 hu
      rfl
    · intro v' w' hown' hg _
      have hbel : Below B w w' := (Below.refl B w).grown hg hbase (fun k hk => (World.ownsRow.lt hown k hk).1)
      have hlen' : (L ++ M).length = L.length + M.length := List.length_append
      have hmap : i64s L ++ i64s M = i64s (L ++ M) := by simp
      rw [hmap] at hown'
      by_cases h0 : L.length + M.length = 0
      · have h00 : L ++ M = [] := List.eq_nil_of_length_eq_zero (by omega)
        rw [h0] at hown'
        rcases hown'.2 with ⟨rfl, _⟩ | ⟨g, cap, cur, rfl, _, r⟩
        · have := h none 0 w' (by rw [h00]; exact OI.nil w' B) hbel
          rwa [h0] at this
        · have := h (some ⟨g, 0, none⟩) cap w' (by unfold OI; rw [h00] at hown' ⊢; exact hown') hbel
          rwa [h0] at this
      · obtain ⟨g, cap, rfl, _, _⟩ := World.ownsRow.form hown' (by omega)
        exact h (some ⟨g, 0, none⟩) cap w' (by unfold OI; rw [hlen']; exact hown') hbel
theorem wp_appi {ops : Array Oper} {rest : List Oper} {o : Oper} {a : Act} {Q : Exit → Act → World → Prop} {w : World} (hw : Region.wanted o (yielded ops a.tmps) = true) (s x : Operand)
    (ho : o.op = .call { callee := .builtin .append, args := #[s, x], argTypes := #[35, 35] }) (B : Nat) (L : List Int) (A : Option Addr) (n c : Nat) (hs : a.eval s = .slice A n c) (hn : L.length = n) (hown : OI w B A c L)
    (M : List Int) (A' : Option Addr) (m c' : Nat) (hx : a.eval x = .slice A' m c') (hm : M.length = m) (hnil : A' = none → m = 0 ∧ c' = 0) (KK : List Nat) (hR : Ri w KK A' M)
    (hlen : n + m ≤ 1048576) (hbase : B ≤ w.heap.size) (s' : Nat) (hsum : n + m = s')
    (h : ∀ A2 c2 w', OI w' B A2 c2 (L ++ M) → Below B w w' → wpList Tryz.prog ops Q rest (a.put o.dst (.slice A2 s' c2)) w') : wpList Tryz.prog ops Q (o :: rest) a w :=
  wpList_wanted hw fun K hK => op_appi s x ho B L A n c hs hn hown M A' m c' hx hm hnil KK hR hlen hbase s' hsum (fun A2 c2 w' k1 k2 => hK _ _ (h A2 c2 w' k1 k2))

theorem Ri.keep {w w' : World} {K L : List Nat} {A : Option Addr} {l : List Int} (h : Ri w K A l) (k : Ke L w w') (hL : ∀ x ∈ L, x ∈ K) : Ri w' K A l := by
  rcases h with h | ⟨b, o, e, hn, hb, hc⟩
  · exact .inl h
  · exact .inr ⟨b, o, e, hn, Nat.lt_of_lt_of_le hb k.size, fun i hi => (World.cell?_of_block (w := w) (a := ⟨b, o + i, none⟩) (k.block b hb (fun hx => hn (hL b hx)))).trans (hc i hi)⟩
theorem same_b (A A' : Option Addr) (cp cp' : Nat) (L : List Int) (K K' : List Nat) (u : World) (n : Nat) (hn : L.length = n) (hR : Ri u K A L) (hR' : Ri u K' A' L) (hc : n ≤ 9223372036854775807) :
    Calls Tryz.prog 10 #[.slice A n cp, .slice A' n cp'] u fun e u' => e = .returned (.bool true) ∧ Ke [] u u' :=
  (oisame_ok A A' cp cp' L L K K' u n n hn hn hR hR' hc hc).mono fun e u' ⟨h1, h2⟩ => ⟨by rw [h1]; simp, h2⟩
end Go.Proofs.YtndamiocmdnenaaGreat

/- The program's table: All: its contract. -/
namespace Go.Proofs.YtndamiocmdnenaaGreat
set_option linter.unusedVariables false
set_option maxRecDepth 100000
set_option linter.unusedSimpArgs false
open Go.RowKit Go.Maps Go.Sort

theorem mn_keys {u : World} {mb : Nat} {l : List (Int × Option Nat)} (h : MnC u mb l) : ∃ D : DataW Unit, u.ownsMap Tryz.prog 3 cRP mb l.length D ∧ (l.map (·.1)).Perm (intKeys D) ∧ Maps.size D = l.length := by
  obtain ⟨h0, h1, h2, D, h3, h4, h5, h6⟩ := h
  refine ⟨D, h3, CollectedI.perm (left := fun _ => false) ⟨?_, fun x => ?_⟩ h3 nlaw Tryz.underlying3 (fun _ => rfl), h4⟩
  · exact List.pairwise_map.2 h1
  · rw [← h5 x, List.mem_map]
    constructor
    · rintro ⟨y, hy, e⟩; exact ⟨⟨y, hy, e⟩, by first | rfl | trivial⟩
    · rintro ⟨⟨y, hy, e⟩, _⟩; exact ⟨y, hy, e⟩
theorem sorted_ints {l ss : List Int} (h : l.Pairwise (· < ·)) (p : ss.Perm l) : ss.mergeSort (fun x y => decide (x ≤ y)) = l := by
  refine List.Perm.eq_of_pairwise (le := fun a b => leI a b = true) (fun a b _ _ h1 h2 => ?_) (List.pairwise_mergeSort (fun a b c h1 h2 => by simp only [leI, decide_eq_true_eq] at *; omega) (fun a b => by simp only [leI, Bool.or_eq_true, decide_eq_true_eq]; omega) ss) ?_ ((List.mergeSort_perm ss _).trans p)
  · simp only [leI, decide_eq_true_eq] at h1 h2
    omega
  · exact h.imp fun {a b} hab => by simp only [leI, decide_eq_true_eq]; omega
theorem enC_keys (pl : Int → Pl) (l : List (Int × Cn)) : (enC_ pl l).map (·.1) = l.map (·.1) := by unfold enC_; rw [List.map_map]; rfl
theorem ckeys_ok (mb : Nat) (W : World) : Calls Tryz.prog 46 #[.map (some mb)] W fun e w' => e = .returned (.func (.func 84) #[] #[.pointer (some ⟨W.heap.size, 0, none⟩)]) ∧ w' = W.alloc (.cells #[.map (some mb)] 49) :=
  (callsIn_wide (n := 5)).1 (Tryz.maps_Keys_i (some mb) W)
section
variable {W u u' : World} {H H' : List Nat} {tb mb : Nat} {pl : Int → Pl} {t : Tc}
theorem csorted_ok (h : Tz u H tb mb pl t) (hg : Gc t) :
    Calls Tryz.prog 45 #[.func (.func 84) #[] #[.pointer (some ⟨u.heap.size, 0, none⟩)]] (u.alloc (.cells #[.map (some mb)] 49)) fun e u' => ∃ A c, e = .returned (.slice A (alC t).length c) ∧ OI u' (u.alloc (.cells #[.map (some mb)] 49)).heap.size A c (alC t) ∧ Below (u.alloc (.cells #[.map (some mb)] 49)).heap.size (u.alloc (.cells #[.map (some mb)] 49)) u' := by
  obtain ⟨D, h3, hp, hsz⟩ := mn_keys h.mp
  rw [enC_keys] at hp
  have hf := hg.few
  have hl : (enC_ pl t.l).length = t.l.length := List.length_map _
  rw [hl] at hsz
  refine ((callsIn_wide (n := 5)).1 (Tryz.slices_Sorted_keys_i mb _ D cRP u h3 (by unfold maxLen; omega) (by omega))).mono fun e w' hh => ?_
  obtain ⟨v, ss, rfl, hss, hrow, hnil, hb⟩ := hh
  have hpp : ss.Perm (alC t) := hss.trans hp.symm
  have hsort := sorted_ints (l := alC t) hg.up hpp
  have hlen : ss.length = (alC t).length := hpp.length_eq
  rw [hsort, hlen] at hrow
  obtain ⟨L, hL⟩ : ∃ L, alC t = L := ⟨_, rfl⟩
  rw [hL] at hrow hlen ⊢
  by_cases hz : L = []
  · subst hz
    have hv : v = .slice none 0 0 := hnil.2 (List.eq_nil_of_length_eq_zero hlen)
    subst hv
    exact ⟨none, 0, rfl, hrow, hb⟩
  · have hpos : 0 < L.length := List.length_pos_iff.2 hz
    obtain ⟨q, cap, hv, hbb, hlq⟩ := World.ownsRow.form hrow hpos
    subst hv
    exact ⟨some ⟨q, 0, none⟩, cap, rfl, hrow, hb⟩
theorem OI.low {w : World} {B B' : Nat} {A : Option Addr} {c : Nat} {L : List Int} (h : OI w B A c L) (hB : B' ≤ B) : OI w B' A c L := by
  refine ⟨h.1, ?_⟩
  rcases h.2 with hn | ⟨g, cap, cur, hv, hg, r⟩
  · exact .inl hn
  · exact .inr ⟨g, cap, cur, hv, Nat.le_trans hB hg, r⟩
set_option maxRecDepth 100000 in
set_option maxHeartbeats 2000000 in
theorem c_all (h : Zc W u H tb t) (hg : Gc t) (n : Nat) (hn : (alC t).length = n) :
    Calls Tryz.prog 11 #[.pointer (some ⟨tb, 0, none⟩)] u fun e u' => ∃ A c, e = .returned (.slice A n c) ∧ OI u' u.heap.size A c (alC t) ∧ Below u.heap.size u u' := by
  obtain ⟨mb, pl, hz⟩ := h.ex
  have c0 : u.cell? ⟨tb, 0, none⟩ = some (.map (some mb)) := hz.tk.cell 0
  have HK := Lib.hid (ckeys_ok mb u)
  have HS := csorted_ok hz hg
  rw [hn] at HS
  have HS := Lib.hid HS
  clear h hz hg hn
  go_enter Tryz.func11, Tryz.ntmps11
  go_wp2_with (first | (go_at_call 46; (with_reducible refine HK.out.mono ?_); rintro e v1 ⟨rfl, hw⟩; rw [hw]; clear hw) | (go_at_call 45; (with_reducible refine HS.out.mono ?_); rintro e v2 ⟨A5, c5, rfl, j1, j2⟩; have J := Lib.hid (And.intro j1 j2); clear j1 j2))
  go_ret
  have h0 := (Below.refl u.heap.size u).alloc (Nat.le_refl _) (.cells #[.map (some mb)] 49)
  exact ⟨A5, c5, rfl, J.out.1.low h0.size, h0.trans (J.out.2.mono h0.size)⟩
end
end Go.Proofs.YtndamiocmdnenaaGreat

/- The program's table of connections: the contracts of all its calls. (Written by gen_cno.py.) -/
namespace Go.Proofs.YtndamiocmdnenaaGreat
end Go.Proofs.YtndamiocmdnenaaGreat

/- The calls that come in to conn's laws: a slice of structs of three numbers and a slice of bytes. Nothing of the program is named here. -/
namespace Go.Proofs.YtndamiocmdnenaaGreat
set_option linter.unusedVariables false
set_option maxRecDepth 100000
set_option linter.unusedSimpArgs false
open Go.ChangeShapes Go.WideShapes Go.ChangeAt Go.RowKit

/-- A call: what it is, of which connection, a number, bytes (where they lie, in a slice of which capacity). -/
structure OpC where
  what : Int
  id : Int
  x : Int
  A : Option Addr
  c : Nat
  l : List UInt8
instance : Inhabited OpC := ⟨⟨0, 0, 0, none, 0, []⟩⟩
/-- The bytes of a call lie below block B. -/
structure OcOk (w : World) (B : Nat) (m : OpC) : Prop where
  rb : Rb w B m.A m.l
  cap : m.l.length ≤ m.c
  max : m.c ≤ 9223372036854775807
  nil_ : m.A = none → m.l.length = 0 ∧ m.c = 0
theorem OcOk.below {w w' : World} {B B' : Nat} {m : OpC} (h : OcOk w B m) (hb : Below B' w w') (hB : B ≤ B') : OcOk w' B m := ⟨h.rb.below hb hB, h.cap, h.max, h.nil_⟩
/-- The four cells of a call. -/
structure OcC (w : World) (b o i : Nat) (m : OpC) : Prop where
  c0 : w.cell? ⟨b, o + i * 4, none⟩ = some (.int .i64 m.what)
  c1 : w.cell? ⟨b, o + i * 4 + 1, none⟩ = some (.int .i64 m.id)
  c2 : w.cell? ⟨b, o + i * 4 + 2, none⟩ = some (.int .i64 m.x)
  c3 : w.cell? ⟨b, o + i * 4 + 3, none⟩ = some (.slice m.A m.l.length m.c)
/-- A slice of calls that came in. -/
structure InCn (W : World) (A : Option Addr) (L : List OpC) (n c : Nat) : Prop where
  ro : L = [] ∨ ∃ b o, A = some ⟨b, o, none⟩ ∧ b < W.heap.size ∧ ∀ i, (h : i < L.length) → OcC W b o i L[i] ∧ OcOk W W.heap.size L[i]
  len : L.length = n
  cap : n ≤ c
  max : c ≤ maxLen
  nil_ : A = none → n = 0 ∧ c = 0
  wf : ∀ m ∈ L, (Lit.int .i64 m.id).wf = true ∧ (Lit.int .i64 m.x).wf = true ∧ (Lit.int .i64 m.what).wf = true
/-- Of the calls that came in, in every later world. -/
theorem InCn.at_ {W : World} {A : Option Addr} {L : List OpC} {n c : Nat} (h : InCn W A L n c) (i : Nat) (hi : i < n) :
    ∃ b o m, A = some ⟨b, o, none⟩ ∧ L[i]? = some m ∧ ((Lit.int .i64 m.id).wf = true ∧ (Lit.int .i64 m.x).wf = true ∧ (Lit.int .i64 m.what).wf = true) ∧ ∀ u, Below W.heap.size W u → OcC u b o i m ∧ OcOk u W.heap.size m := by
  rcases h.ro with h0 | ⟨b, o, e, hb, hc⟩
  · have := h.len
    rw [h0] at this
    simp at this
    omega
  · have hi' : i < L.length := by rw [h.len]; exact hi
    obtain ⟨h1, h4⟩ := hc i hi'
    refine ⟨b, o, L[i], e, List.getElem?_eq_getElem hi', h.wf _ (List.getElem_mem hi'), fun u hu => ⟨⟨?_, ?_, ?_, ?_⟩, h4.below hu (Nat.le_refl _)⟩⟩
    · exact (hu.cell (p := ⟨b, o + i * 4, none⟩) hb).trans h1.c0
    · exact (hu.cell (p := ⟨b, o + i * 4 + 1, none⟩) hb).trans h1.c1
    · exact (hu.cell (p := ⟨b, o + i * 4 + 2, none⟩) hb).trans h1.c2
    · exact (hu.cell (p := ⟨b, o + i * 4 + 3, none⟩) hb).trans h1.c3

theorem open_oneC {H : Type} {enc : TypeId × Value → H} {P : Program} {W : World} {t q : TypeId} {v : Value} {y : DataW H × List MemPlace} {fuel : Nat} (ht : P.underlying t = some (.slice q)) (hq : P.underlying q = some (.int .u8)) (cq : P.cellsOf q = 1)
    (h : DataW.trod enc P W 0 (fun _ => true) true fuel t [v] = some y) : ∃ A c l, v = .slice A l.length c ∧ InB W A l l.length c := by
  rcases Go.Deep.open_slice ht h with ⟨hcs, hx⟩ | ⟨a, len, cap, m, n, D, Pl, hcs, _⟩
  · obtain rfl : v = .slice none 0 0 := by simpa using hcs
    exact ⟨none, 0, [], rfl, ⟨.inl rfl, rfl, Nat.le_refl _, by unfold maxLen; omega, fun _ => ⟨rfl, rfl⟩⟩⟩
  · obtain rfl : v = .slice (some a) len cap := by simpa using hcs
    obtain ⟨l, hl⟩ := open_bytes (W := W) (A := some a) (n := len) (c := cap) (d := y.1) (p := y.2) ht hq cq ⟨fuel, by simpa [Value.cells] using h⟩
    have e := hl.len
    subst e
    exact ⟨some a, cap, l, rfl, hl⟩

theorem open_cnops {H : Type} {enc : TypeId × Value → H} {P : Program} {W : World} {A : Option Addr} {n c : Nat} {t e q : TypeId} {f0 f1 f2 f3 : Field} {d : DataW H} {p : List MemPlace} (ht : P.underlying t = some (.slice e)) (he : P.underlying e = some (.struct #[f0, f1, f2, f3])) (ce : P.cellsOf e = 4)
    (o0 : f0.offset = 0) (o1 : f1.offset = 1) (o2 : f2.offset = 2) (o3 : f3.offset = 3) (c0 : P.cellsOf f0.type = 1) (c1 : P.cellsOf f1.type = 1) (c2 : P.cellsOf f2.type = 1) (c3 : P.cellsOf f3.type = 1)
    (h0 : P.underlying f0.type = some (.int .i64)) (h1 : P.underlying f1.type = some (.int .i64)) (h2 : P.underlying f2.type = some (.int .i64)) (h3 : P.underlying f3.type = some (.slice q)) (hq : P.underlying q = some (.int .u8)) (cq : P.cellsOf q = 1)
    (h : DataW.Trod enc P W 0 (fun _ => true) true t (.slice A n c) d p) : ∃ L, InCn W A L n c := by
  obtain ⟨fuel, hf⟩ := h
  rcases Go.Deep.open_slice ht hf with ⟨hcs, _⟩ | ⟨a, len, cap, m, k, D, Pl, hcs, _, hl, hm, hmm, _, hx⟩
  · simp [Value.cells] at hcs
    obtain ⟨rfl, rfl, rfl⟩ := hcs
    exact ⟨[], ⟨.inl rfl, rfl, Nat.le_refl _, by unfold maxLen; omega, fun _ => ⟨rfl, rfl⟩, fun m hm => by cases hm⟩⟩
  · simp [Value.cells] at hcs
    obtain ⟨rfl, rfl, rfl⟩ := hcs
    simp only [if_true] at hmm
    subst hmm
    have each : ∀ i, i < n → ∃ x : OpC, W.cell? (a.add (i * 4)) = some (.int .i64 x.what) ∧ W.cell? (a.add (i * 4 + 1)) = some (.int .i64 x.id) ∧ W.cell? (a.add (i * 4 + 2)) = some (.int .i64 x.x) ∧ W.cell? (a.add (i * 4 + 3)) = some (.slice x.A x.l.length x.c) ∧ InB W x.A x.l x.l.length x.c ∧ ((Lit.int .i64 x.id).wf = true ∧ (Lit.int .i64 x.x).wf = true ∧ (Lit.int .i64 x.what).wf = true) := by
      intro i hi
      obtain ⟨cs', g1, g2⟩ := hx i (by omega)
      rw [ce] at g1
      obtain ⟨_, hlen, hcell⟩ := World.cells?_some g1
      obtain ⟨xs, k', _, _, _, hxl, hfs⟩ := DataW.trod_struct he g2
      match xs, hxl, cs', hlen with
      | [y0, y1, y2, y3], _, [v0, v1, v2, v3], _ =>
        have t0 := hfs 0 f0 rfl
        have t1 := hfs 1 f1 rfl
        have t2 := hfs 2 f2 rfl
        have t3 := hfs 3 f3 rfl
        simp [o0, o1, o2, o3, c0, c1, c2, c3] at t0 t1 t2 t3
        obtain ⟨n0, e0, _, z0⟩ := DataW.trod_int h0 t0
        obtain ⟨n1, e1, _, z1⟩ := DataW.trod_int h1 t1
        obtain ⟨n2, e2, _, z2⟩ := DataW.trod_int h2 t2
        obtain ⟨A2, c2', l2, e3, b2⟩ := open_oneC h3 hq cq t3
        obtain rfl : v0 = .int .i64 n0 := by simpa using e0
        obtain rfl : v1 = .int .i64 n1 := by simpa using e1
        obtain rfl : v2 = .int .i64 n2 := by simpa using e2
        subst e3
        have q0 := hcell 0 (by omega)
        have q1 := hcell 1 (by omega)
        have q2 := hcell 2 (by omega)
        have q3 := hcell 3 (by omega)
        rw [Go.Deep.add_add] at q0 q1 q2 q3
        exact ⟨⟨n0, n1, n2, A2, c2', l2⟩, by simpa using q0, by simpa using q1, by simpa using q2, by simpa using q3, b2, z1, z2, z0⟩
    obtain ⟨F, hF⟩ := Go.Deep.choose_lt each
    refine ⟨(List.range n).map F, ⟨?_, by simp, hl, hm, (fun h => by cases h), fun m hm' => by
      obtain ⟨i, hi, rfl⟩ := List.mem_map.1 hm'
      exact (hF i (List.mem_range.1 hi)).2.2.2.2.2⟩⟩
    by_cases hn : n = 0
    · left; rw [hn]; rfl
    · right
      obtain ⟨b, o, spot⟩ := a
      have hc0 := (hF 0 (by omega)).1
      have hspot : spot = none := by simpa [Addr.add] using World.cell?_spot hc0
      subst hspot
      refine ⟨b, o, rfl, ?_, fun i hi => ?_⟩
      · have := World.block_lt_of_cell? W _ hc0
        rw [add_plain] at this
        exact this
      · have hi' : i < n := by simpa using hi
        have e : ((List.range n).map F)[i] = F i := by simp
        rw [e]
        obtain ⟨r0, r1, r2, r3, r4, _⟩ := hF i hi'
        rw [add_plain] at r0 r1 r2 r3
        exact ⟨⟨r0, r1, r2, r3⟩, ⟨r4.rb, r4.cap, by have := r4.max; unfold maxLen at this; omega, r4.nil_⟩⟩
end Go.Proofs.YtndamiocmdnenaaGreat

/- Two footprints side by side. Nothing of the program is named here. -/
namespace Go.Proofs.YtndamiocmdnenaaGreat
set_option linter.unusedVariables false
set_option maxRecDepth 100000
set_option linter.unusedSimpArgs false
open Go.RowKit

theorem Sp.left {u u' : World} {G G' : List Nat} (H : List Nat) (h : Sp u u' G G') : Sp u u' (G ++ H) (G' ++ H) :=
  ⟨h.k.more fun x hx => List.mem_append_left _ hx, fun y hy => by
    rcases List.mem_append.1 hy with e | e
    · rcases h.g y e with e1 | e1
      · exact .inl (List.mem_append_left _ e1)
      · exact .inr e1
    · exact .inl (List.mem_append_right _ e)⟩
theorem Sp.right {u u' : World} {H H' : List Nat} (G : List Nat) (h : Sp u u' H H') : Sp u u' (G ++ H) (G ++ H') :=
  ⟨h.k.more fun x hx => List.mem_append_right _ hx, fun y hy => by
    rcases List.mem_append.1 hy with e | e
    · exact .inl (List.mem_append_left _ e)
    · rcases h.g y e with e1 | e1
      · exact .inl (List.mem_append_right _ e1)
      · exact .inr e1⟩
end Go.Proofs.YtndamiocmdnenaaGreat

/- One text behind the other, as one operation. Nothing of the program is named here. -/
namespace Go.Proofs.YtndamiocmdnenaaGreat
set_option linter.unusedVariables false
set_option maxRecDepth 100000
set_option linter.unusedSimpArgs false
open Go.RowKit

theorem bs_cat (a b : List UInt8) : bs a ++ bs b = bs (a ++ b) := ByteArray.mk_append_mk a b
theorem run_cat {P : Program} (w : World) (t : TypeId) (l k : List UInt8) (h : l.length + k.length ≤ 9223372036854775807) : (binOp .add t (.string (bs l)) (.string (bs k))).run P w = .ok (.string (bs (l ++ k))) w := by
  have h1 := run_string_add_sum (P := P) w (bs l) (bs k) (by rw [bs_size, bs_size]; exact h)
  rw [bs_cat] at h1
  simp [binOp, h1]

theorem op_cat {P : Program} {o : Oper} {a : Act} {K : Act → World → Prop} {Q : Exit → Act → World → Prop} {w : World} (x y : Operand) (t t2 : TypeId) (ho : o.op = .binOp .add t x y t2) (l k m : List UInt8) (hx : a.eval x = .string (bs l)) (hy : a.eval y = .string (bs k)) (hlen : l.length + k.length ≤ 9223372036854775807) (hm : l ++ k = m)
    (h : K (a.put o.dst (.string (bs m))) w) : o.wp P a w K Q := by
  subst hm
  have hr := run_cat (P := P) w t l k hlen
  unfold Oper.wp execOp
  simp only [ho, hx, hy, eqGuard, Bool.not_false, if_true, Sem.run_bind, Sem.run_pure, Result.andThen_ok, hr]
  exact h
theorem wpList_cat {P : Program} {ops : Array Oper} {Q : Exit → Act → World → Prop} {a : Act} {w : World} {rest : List Oper} {o : Oper} (hw : Region.wanted o (yielded ops a.tmps) = true) (x y : Operand) (t t2 : TypeId) (ho : o.op = .binOp .add t x y t2) (l k m : List UInt8) (hx : a.eval x = .string (bs l)) (hy : a.eval y = .string (bs k)) (hlen : l.length + k.length ≤ 9223372036854775807) (hm : l ++ k = m)
    (h : wpList P ops Q rest (a.put o.dst (.string (bs m))) w) : wpList P ops Q (o :: rest) a w :=
  wpList_wanted hw fun K hK => op_cat x y t t2 ho l k m hx hy hlen hm (hK _ _ h)
end Go.Proofs.YtndamiocmdnenaaGreat
