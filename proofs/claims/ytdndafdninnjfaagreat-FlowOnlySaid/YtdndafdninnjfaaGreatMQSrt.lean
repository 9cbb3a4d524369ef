/-
  Sorted lists of names: the library's sort answers what the document's does; lists that the call itself has laid; one list behind another one.
-/
import Derived.Test.YtdndafdninnjfaaGreatMSta
import Derived.Test.YtdndafdninnjfaaGreatMQShf
import Derived.Lib.SlKeysI
namespace Go.Proofs.YtdndafdninnjfaaGreat
open Go.RowKit

/-- a number of the walk -/
def ivl : Value → Int
  | .int _ q => q
  | _ => 0
theorem takeW_le {x : Int} : ∀ (l : List Int), ∀ y ∈ l.takeWhile (fun y => decide (y ≤ x)), y ≤ x
  | [], y, h => by cases h
  | a :: l, y, h => by
    rw [List.takeWhile_cons] at h
    by_cases c : a ≤ x
    · rw [decide_eq_true c, if_pos rfl] at h
      rcases List.mem_cons.1 h with rfl | h
      · exact c
      · exact takeW_le l y h
    · rw [decide_eq_false c] at h
      cases h
theorem dropW_le {x : Int} : ∀ (l : List Int), l.Pairwise (· ≤ ·) → ∀ y ∈ l.dropWhile (fun y => decide (y ≤ x)), x ≤ y
  | [], _, y, h => by cases h
  | a :: l, hp, y, h => by
    rw [List.dropWhile_cons] at h
    by_cases c : a ≤ x
    · rw [decide_eq_true c, if_pos rfl] at h
      exact dropW_le l (List.pairwise_cons.1 hp).2 y h
    · rw [decide_eq_false c] at h
      simp only [Bool.false_eq_true, if_false] at h
      rcases List.mem_cons.1 h with rfl | h
      · omega
      · have := (List.pairwise_cons.1 hp).1 y h
        omega
theorem ins_sorted {out : List Int} (h : out.Pairwise (· ≤ ·)) (x : Int) : (insI out x).Pairwise (· ≤ ·) := by
  unfold insI
  refine List.pairwise_append.2 ⟨h.sublist (List.takeWhile_sublist _), List.pairwise_cons.2 ⟨dropW_le out h, h.sublist (List.dropWhile_sublist _)⟩, fun a ha b hb => ?_⟩
  have h1 := takeW_le out a ha
  rcases List.mem_cons.1 hb with rfl | hb
  · exact h1
  · have := dropW_le out h b hb
    omega
theorem sort_sorted : ∀ (l out : List Int), out.Pairwise (· ≤ ·) → (l.foldl insI out).Pairwise (· ≤ ·)
  | [], _, h => h
  | x :: l, out, h => sort_sorted l (insI out x) (ins_sorted h x)
/-- however they came -/
theorem srt_eq {l l' : List Int} (h : l.Perm l') : l.mergeSort (fun x y => decide (x ≤ y)) = sortI l' := by
  have tr : ∀ a b c : Int, decide (a ≤ b) = true → decide (b ≤ c) = true → decide (a ≤ c) = true := fun a b c h1 h2 => by simp only [decide_eq_true_eq] at *; omega
  have tt : ∀ a b : Int, (decide (a ≤ b) || decide (b ≤ a)) = true := fun a b => by simp only [Bool.or_eq_true, decide_eq_true_eq]; omega
  have hp : (sortI l').Perm l' := by have := sort_perm l' []; rwa [List.append_nil] at this
  refine List.Perm.eq_of_pairwise (le := fun a b => decide (a ≤ b) = true) (fun a b _ _ h1 h2 => ?_) (List.pairwise_mergeSort tr tt l) ((sort_sorted l' [] List.Pairwise.nil).imp (fun {a b} c => decide_eq_true c)) (((List.mergeSort_perm l _).trans h).trans hp.symm)
  simp only [decide_eq_true_eq] at h1 h2
  omega
/-- slices.Sort of names that the call itself has laid -/
theorem sort9_any {w : World} {base n : Nat} {v : Value} {xs : List Int} (h : OwnD w base v n xs) (hn : n ≤ 100000) :
    Calls Tryz.prog 46 #[v] w fun e w' => e = .returned (.tuple #[]) ∧ OwnD w' base v n (xs.mergeSort (fun x y => decide (x ≤ y))) ∧ w.grownBy w' v.ownBlock := by
  have hl : xs.length = n := by have := h.1; rw [List.length_map, Nat.mul_one] at this; exact this
  rcases h.2 with ⟨rfl, h0⟩ | ⟨g, cap, cur, rfl, hb, hg, hn1, hm, hs, ht⟩
  · have hx : xs = [] := List.eq_nil_of_length_eq_zero (by omega)
    subst hx
    refine (AnyM.slices_Sort_int_none lay_sortB none 0 w).mono ?_
    rintro e w' ⟨rfl, rfl⟩
    exact ⟨rfl, by simpa using h, ⟨rfl, rfl, rfl, Nat.le_refl _, fun _ _ _ => rfl⟩⟩
  · subst hl
    have hH : Go.Sort.Holds encZ w g 0 xs.toArray := holds_of_block_i hg (by simpa using ht)
    refine (AnyM.slices_Sort_int lay_sortB g 0 cap xs w hH (Array.getElem?_eq_some_iff.1 hg).1 (by omega)).mono ?_
    rintro e w' ⟨rfl, nn, os, rfl⟩
    exact ⟨rfl, ownsRow_sorted_i (by simp) hb hg hn1 hm (by simpa using hs), grownBy_sorted_i _⟩

theorem LRes.of9 {w w' : World} {base : Nat} {v : Value} {n : Nat} {zs : List Int} (h : OwnD w' base v n zs) (hw : w.heap.size ≤ base) : LRes w w' zs v := by
  obtain ⟨a, cap, rfl, hr⟩ := h.row
  have hl : zs.length = n := hr.1
  subst hl
  refine ⟨a, cap, rfl, hr, ?_⟩
  rcases h.2 with ⟨_, h0⟩ | ⟨g, cap', cur, hv, hb, _⟩
  · exact Or.inl h0
  · refine Or.inr (fun ad e => ?_)
    injection hv with hv _ _
    rw [e] at hv
    injection hv with hv
    rw [hv]
    exact Nat.le_trans hw hb
theorem own_below9 {w wr w' : World} {base : Nat} {v : Value} {n : Nat} {zs : List Int} (ho : OwnD wr base v n zs) (hw : w.heap.size ≤ base) (hb : Below w.heap.size w wr) (hg : wr.grownBy w' v.ownBlock) : Below w.heap.size w w' :=
  ⟨hg.os.trans hb.os, hg.tape.trans hb.tape, hg.output.trans hb.output, Nat.le_trans hb.size hg.size, fun k hk => (hg.block k (Nat.lt_of_lt_of_le hk hb.size) (fun e => by have := (World.ownsRow.lt ho k e.symm).1; omega)).trans (hb.block k hk)⟩
theorem srt_up {l K : List Int} (h : l.Perm K) (hK : K.Pairwise (· < ·)) : l.mergeSort (fun x y => decide (x ≤ y)) = K := by
  have tr : ∀ a b c : Int, decide (a ≤ b) = true → decide (b ≤ c) = true → decide (a ≤ c) = true := fun a b c h1 h2 => by simp only [decide_eq_true_eq] at *; omega
  have tt : ∀ a b : Int, (decide (a ≤ b) || decide (b ≤ a)) = true := fun a b => by simp only [Bool.or_eq_true, decide_eq_true_eq]; omega
  refine List.Perm.eq_of_pairwise (le := fun a b => decide (a ≤ b) = true) (fun a b _ _ h1 h2 => ?_) (List.pairwise_mergeSort tr tt l) (hK.imp (fun {a b} c => decide_eq_true (by omega))) ((List.mergeSort_perm l _).trans h)
  simp only [decide_eq_true_eq] at h1 h2
  omega
set_option maxRecDepth 100000 in
/-- one list of names behind another one -/
theorem wpList_cat9 {ops : Array Oper} {rest : List Oper} {op : Oper} {a : Go.Act} {w : World} {Q : Exit → Go.Act → World → Prop} (hgd : op.guard = none) (ts tb : Operand)
    (ho : op.op = .call { callee := .builtin .append, args := #[ts, tb], argTypes := #[24, 24] }) (base n : Nat) (v : Value) (zs : List Int) (hs : a.eval ts = v) (hown : OwnD w base v n zs) (x : Option Addr) (m cap : Nat) (ys : List Int) (hx : a.eval tb = .slice x m cap) (row : Row w x m ys) (hn : n ≤ 100000) (hm : m ≤ 100000) (hb : base ≤ w.heap.size)
    (h : ∀ v' w', OwnD w' base v' (n + m) (zs ++ ys) → w.grownBy w' v.ownBlock → wpList Tryz.prog ops Q rest (a.put op.dst v') w') : wpList Tryz.prog ops Q (op :: rest) a w := by
  obtain ⟨i0, hi0, hz0, hz1, hz2⟩ := info_parts id_info
  have hl : ys.length = m := row.1
  cases x with
  | none =>
    have hm0 : m = 0 := by
      rcases row.2.2 with c | ⟨b, off, e, _⟩
      · exact c
      · cases e
    subst hm0
    have hys : ys = [] := List.eq_nil_of_length_eq_zero hl
    subst hys
    have h2 := h v w (by rw [Nat.add_zero, List.append_nil]; exact hown) ⟨rfl, rfl, rfl, Nat.le_refl _, fun _ _ _ => rfl⟩
    have hr : (Builtin.append_ #[24, 24] op.type #[v, .slice none 0 cap]).run Tryz.prog w = .ok v w := by
      rcases hown.2 with ⟨rfl, _⟩ | ⟨g, c, cur, rfl, _, _, hnc, _⟩
      · simp [Builtin.append_, run_underlying Tryz.underlying24, sizeOf, typeInfo, hi0, Builtin.lenOf, Builtin.firstCells]
      · simp [Builtin.append_, run_underlying Tryz.underlying24, sizeOf, typeInfo, hi0, Builtin.lenOf, Builtin.firstCells, loadCells, storeCells, hnc]
    refine wpList_plain hgd fun K hK => ?_
    have h3 := hK _ _ h2
    unfold Oper.wp execOp
    simp only [ho, resolve, invoke, builtin, Sem.run_bind, Sem.run_pure, Result.andThen_ok, List.map_toArray, List.map_cons, List.map_nil, hs, hx, hr]
    exact h3
  | some ad =>
    have hnews : ∀ j u, (ys.map (Value.int .i64))[j]? = some u → w.cell? (ad.add j) = some u := fun j u hu => by
      have hj : j < m := by have := (List.getElem?_eq_some_iff.1 hu).1; rw [List.length_map, hl] at this; exact this
      obtain ⟨b, off, y, e, hy, cy⟩ := row_at row hj
      injection e with e
      subst e
      rw [Addr.add_mid, cy]
      rw [List.getElem?_map, hy] at hu
      exact hu
    refine wpList_append_own _ hgd ts tb 24 ho base 41 i0 (.int .i64 0) 1 8 Tryz.underlying24 hi0 hz0 hz1 hz2 rfl (by decide) v n (zs.map (Value.int .i64)) hs hown ad m cap (ys.map (Value.int .i64)) hx (by rw [List.length_map, hl, Nat.mul_one]) hnews (fun u hu => by
      obtain ⟨y, _, rfl⟩ := List.mem_map.1 hu
      rfl) (by unfold maxLen; omega) (by omega) hb ?_
    intro v' w' h1 h2 _
    refine h v' w' ?_ h2
    unfold OwnD
    rw [List.map_append]
    exact h1
end Go.Proofs.YtdndafdninnjfaaGreat
