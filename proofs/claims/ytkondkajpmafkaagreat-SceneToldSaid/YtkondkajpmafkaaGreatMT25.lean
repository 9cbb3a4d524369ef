/-
  3 texts in one file, each with its own heading.
-/
import Derived.Test.YtkondkajpmafkaaGreatMT24
import Derived.Shelf.SlIterI.Nil
import Derived.Shelf.SortM.Plain
import Derived.Shelf.SortM.SortNone
import Derived.Shelf.SlicesG.Clone
import Derived.Test.YtkondkajpmafkaaGreatProg
import Derived.Test.YtkondkajpmafkaaGreatMT13
import Derived.Lib.SlKeysI
/-
  The reference's store: what its New and Touch of layer 8 answer.
-/
namespace Go.Proofs.YtkondkajpmafkaaGreat
open Go.RowKit

theorem live_to (S : St) (x y : Int) : liveS (to1 S x) y = liveS S y := by unfold to1; split <;> rfl
theorem live_tos : ∀ (l : List Int) (S : St) (y : Int), liveS (toS S l) y = liveS S y
  | [], _, _ => rfl
  | x :: l, S, y => (live_tos l (to1 S x) y).trans (live_to S x y)
end Go.Proofs.YtkondkajpmafkaaGreat
namespace Go.Proofs.YtkondkajpmafkaaGreat
open Go.Shelf
def lay_sortB_ren : Go.Shelf.Ren := ⟨fun | 5 => 88 | 8 => 124 | 7 => 123 | 19 => 156 | 20 => 157 | 10 => 147 | 11 => 148 | 12 => 149 | 13 => 150 | 14 => 151 | 15 => 152 | 16 => 153 | 17 => 154 | 18 => 155 | 30 => 174 | 31 => 175 | 32 => 176 | 33 => 177 | 34 => 178 | 35 => 179 | 40 => 197 | n => n, fun | 23 => 53 | 25 => 31 | 3 => 3 | 32 => 170 | 22 => 53 | 0 => 0 | 44 => 215 | 46 => 217 | 4 => 4 | 36 => 209 | 35 => 208 | 41 => 191 | 5 => 5 | 9 => 9 | 53 => 234 | 57 => 238 | 63 => 250 | 64 => 137 | n => n, fun | n => n⟩
theorem lay_sortB : Go.Proofs.SlLaysM.n5 Tryz.prog lay_sortB_ren := {
  mixed := by kernel_rfl
  f5 := ⟨Tryz.f88.name, by decide, Tryz.func88.trans (congrArg some (by kernel_rfl))⟩
  f7 := ⟨Tryz.f123.name, by decide, Tryz.func123.trans (congrArg some (by kernel_rfl))⟩
  f8 := Tryz.func124.trans (congrArg some (by kernel_rfl))
  f10 := ⟨Tryz.f147.name, by decide, Tryz.func147.trans (congrArg some (by kernel_rfl))⟩
  f11 := ⟨Tryz.f148.name, by decide, Tryz.func148.trans (congrArg some (by kernel_rfl))⟩
  f12 := ⟨Tryz.f149.name, by decide, Tryz.func149.trans (congrArg some (by kernel_rfl))⟩
  f13 := ⟨Tryz.f150.name, by decide, Tryz.func150.trans (congrArg some (by kernel_rfl))⟩
  f14 := ⟨Tryz.f151.name, by decide, Tryz.func151.trans (congrArg some (by kernel_rfl))⟩
  f15 := ⟨Tryz.f152.name, by decide, Tryz.func152.trans (congrArg some (by kernel_rfl))⟩
  f16 := ⟨Tryz.f153.name, by decide, Tryz.func153.trans (congrArg some (by kernel_rfl))⟩
  f17 := ⟨Tryz.f154.name, by decide, Tryz.func154.trans (congrArg some (by kernel_rfl))⟩
  f18 := ⟨Tryz.f155.name, by decide, Tryz.func155.trans (congrArg some (by kernel_rfl))⟩
  f19 := Tryz.func156.trans (congrArg some (by kernel_rfl))
  f20 := Tryz.func157.trans (congrArg some (by kernel_rfl))
  f30 := ⟨Tryz.f174.name, by decide, Tryz.func174.trans (congrArg some (by kernel_rfl))⟩
  f31 := Tryz.func175.trans (congrArg some (by kernel_rfl))
  f32 := Tryz.func176.trans (congrArg some (by kernel_rfl))
  f33 := ⟨Tryz.f177.name, by decide, Tryz.func177.trans (congrArg some (by kernel_rfl))⟩
  f34 := ⟨Tryz.f178.name, by decide, Tryz.func178.trans (congrArg some (by kernel_rfl))⟩
  f35 := ⟨Tryz.f179.name, by decide, Tryz.func179.trans (congrArg some (by kernel_rfl))⟩
  f40 := ⟨Tryz.f197.name, by decide, Tryz.func197.trans (congrArg some (by kernel_rfl))⟩
  t0 := Tryz.underlying0
  a0 := Tryz.isAgg0
  z0 := Tryz.sizeOf0
  v0 := Tryz.zeroValue0
  t3 := Tryz.underlying3
  a3 := Tryz.isAgg3
  z3 := Tryz.sizeOf3
  v3 := Tryz.zeroValue3
  t4 := Tryz.underlying4
  a4 := Tryz.isAgg4
  z4 := Tryz.sizeOf4
  v4 := Tryz.zeroValue4
  t5 := Tryz.underlying5
  a5 := Tryz.isAgg5
  z5 := Tryz.sizeOf5
  v5 := Tryz.zeroValue5
  t9 := Tryz.underlying9
  a9 := Tryz.isAgg9
  z9 := Tryz.sizeOf9
  v9 := Tryz.zeroValue9
  t22 := Tryz.underlying53
  a22 := Tryz.isAgg53
  z22 := Tryz.sizeOf53
  v22 := Tryz.zeroValue53
  t23 := Tryz.underlying53
  a23 := Tryz.isAgg53
  z23 := Tryz.sizeOf53
  v23 := Tryz.zeroValue53
  t25 := Tryz.underlying31
  a25 := Tryz.isAgg31
  z25 := Tryz.sizeOf31
  v25 := Tryz.zeroValue31
  t32 := Tryz.underlying170
  a32 := Tryz.isAgg170
  z32 := Tryz.sizeOf170
  v32 := Tryz.zeroValue170
  t35 := Tryz.underlying208
  a35 := Tryz.isAgg208
  z35 := Tryz.sizeOf208
  v35 := Tryz.zeroValue208
  t36 := Tryz.underlying209
  a36 := Tryz.isAgg209
  z36 := Tryz.sizeOf209
  v36 := Tryz.zeroValue209
  t41 := Tryz.underlying191
  a41 := Tryz.isAgg191
  z41 := Tryz.sizeOf191
  v41 := Tryz.zeroValue191
  t44 := Tryz.underlying215
  a44 := Tryz.isAgg215
  z44 := Tryz.sizeOf215
  v44 := Tryz.zeroValue215
  t46 := Tryz.underlying217
  a46 := Tryz.isAgg217
  z46 := Tryz.sizeOf217
  v46 := Tryz.zeroValue217
  t53 := Tryz.underlying234
  a53 := Tryz.isAgg234
  z53 := Tryz.sizeOf234
  v53 := Tryz.zeroValue234
  t57 := Tryz.underlying238
  a57 := Tryz.isAgg238
  z57 := Tryz.sizeOf238
  v57 := Tryz.zeroValue238
  t63 := Tryz.underlying250
  a63 := Tryz.isAgg250
  z63 := Tryz.sizeOf250
  v63 := Tryz.zeroValue250
  t64 := Tryz.underlying137
  a64 := Tryz.isAgg137
  z64 := Tryz.sizeOf137
  v64 := Tryz.zeroValue137 }
end Go.Proofs.YtkondkajpmafkaaGreat
namespace Go.Proofs.YtkondkajpmafkaaGreat
open Go.RowKit

def ivl : Value → Int
  | .int _ q => q
  | _ => 0
theorem takeW_le {x : Int} : ∀ (l : List Int), ∀ y ∈ l.takeWhile (fun y => decide (y ≤ x)), y ≤ x
  | [], y, h => by cases h
  | a :: l, y, h => by
    rw [List.takeWhile_cons] at h
    by_cases c : a ≤ x
    · rw [decide_eq_true c, if_pos rfl] at h
      rcases List.mem_cons.1 h with rfl | h
      · exact c
      · exact takeW_le l y h
    · rw [decide_eq_false c] at h
      cases h
theorem dropW_le {x : Int} : ∀ (l : List Int), l.Pairwise (· ≤ ·) → ∀ y ∈ l.dropWhile (fun y => decide (y ≤ x)), x ≤ y
  | [], _, y, h => by cases h
  | a :: l, hp, y, h => by
    rw [List.dropWhile_cons] at h
    by_cases c : a ≤ x
    · rw [decide_eq_true c, if_pos rfl] at h
      exact dropW_le l (List.pairwise_cons.1 hp).2 y h
    · rw [decide_eq_false c] at h
      simp only [Bool.false_eq_true, if_false] at h
      rcases List.mem_cons.1 h with rfl | h
      · omega
      · have := (List.pairwise_cons.1 hp).1 y h
        omega
theorem ins_sorted {out : List Int} (h : out.Pairwise (· ≤ ·)) (x : Int) : (insI out x).Pairwise (· ≤ ·) := by
  unfold insI
  refine List.pairwise_append.2 ⟨h.sublist (List.takeWhile_sublist _), List.pairwise_cons.2 ⟨dropW_le out h, h.sublist (List.dropWhile_sublist _)⟩, fun a ha b hb => ?_⟩
  have h1 := takeW_le out a ha
  rcases List.mem_cons.1 hb with rfl | hb
  · exact h1
  · have := dropW_le out h b hb
    omega
theorem sort_sorted : ∀ (l out : List Int), out.Pairwise (· ≤ ·) → (l.foldl insI out).Pairwise (· ≤ ·)
  | [], _, h => h
  | x :: l, out, h => sort_sorted l (insI out x) (ins_sorted h x)
theorem srt_eq {l l' : List Int} (h : l.Perm l') : l.mergeSort (fun x y => decide (x ≤ y)) = sortI l' := by
  have tr : ∀ a b c : Int, decide (a ≤ b) = true → decide (b ≤ c) = true → decide (a ≤ c) = true := fun a b c h1 h2 => by simp only [decide_eq_true_eq] at *; omega
  have tt : ∀ a b : Int, (decide (a ≤ b) || decide (b ≤ a)) = true := fun a b => by simp only [Bool.or_eq_true, decide_eq_true_eq]; omega
  have hp : (sortI l').Perm l' := by have := sort_perm l' []; rwa [List.append_nil] at this
  refine List.Perm.eq_of_pairwise (le := fun a b => decide (a ≤ b) = true) (fun a b _ _ h1 h2 => ?_) (List.pairwise_mergeSort tr tt l) ((sort_sorted l' [] List.Pairwise.nil).imp (fun {a b} c => decide_eq_true c)) (((List.mergeSort_perm l _).trans h).trans hp.symm)
  simp only [decide_eq_true_eq] at h1 h2
  omega
theorem sort9_any {w : World} {base n : Nat} {v : Value} {xs : List Int} (h : OwnD w base v n xs) (hn : n ≤ 100000) :
    Calls Tryz.prog 88 #[v] w fun e w' => e = .returned (.tuple #[]) ∧ OwnD w' base v n (xs.mergeSort (fun x y => decide (x ≤ y))) ∧ w.grownBy w' v.ownBlock := by
  have hl : xs.length = n := by have := h.1; rw [List.length_map, Nat.mul_one] at this; exact this
  rcases h.2 with ⟨rfl, h0⟩ | ⟨g, cap, cur, rfl, hb, hg, hn1, hm, hs, ht⟩
  · have hx : xs = [] := List.eq_nil_of_length_eq_zero (by omega)
    subst hx
    refine (AnyM.slices_Sort_int_none lay_sortB none 0 w).mono ?_
    rintro e w' ⟨rfl, rfl⟩
    exact ⟨rfl, by simpa using h, ⟨rfl, rfl, rfl, Nat.le_refl _, fun _ _ _ => rfl⟩⟩
  · subst hl
    have hH : Go.Sort.Holds encZ w g 0 xs.toArray := holds_of_block_i hg (by simpa using ht)
    refine (AnyM.slices_Sort_int lay_sortB g 0 cap xs w hH (Array.getElem?_eq_some_iff.1 hg).1 (by omega)).mono ?_
    rintro e w' ⟨rfl, nn, os, rfl⟩
    exact ⟨rfl, ownsRow_sorted_i (by simp) hb hg hn1 hm (by simpa using hs), grownBy_sorted_i _⟩

theorem LRes.of9 {w w' : World} {base : Nat} {v : Value} {n : Nat} {zs : List Int} (h : OwnD w' base v n zs) (hw : w.heap.size ≤ base) : LRes w w' zs v := by
  obtain ⟨a, cap, rfl, hr⟩ := h.row
  have hl : zs.length = n := hr.1
  subst hl
  refine ⟨a, cap, rfl, hr, ?_⟩
  rcases h.2 with ⟨_, h0⟩ | ⟨g, cap', cur, hv, hb, _⟩
  · exact Or.inl h0
  · refine Or.inr (fun ad e => ?_)
    injection hv with hv _ _
    rw [e] at hv
    injection hv with hv
    rw [hv]
    exact Nat.le_trans hw hb
theorem own_below9 {w wr w' : World} {base : Nat} {v : Value} {n : Nat} {zs : List Int} (ho : OwnD wr base v n zs) (hw : w.heap.size ≤ base) (hb : Below w.heap.size w wr) (hg : wr.grownBy w' v.ownBlock) : Below w.heap.size w w' :=
  ⟨hg.os.trans hb.os, hg.tape.trans hb.tape, hg.output.trans hb.output, Nat.le_trans hb.size hg.size, fun k hk => (hg.block k (Nat.lt_of_lt_of_le hk hb.size) (fun e => by have := (World.ownsRow.lt ho k e.symm).1; omega)).trans (hb.block k hk)⟩
end Go.Proofs.YtkondkajpmafkaaGreat
