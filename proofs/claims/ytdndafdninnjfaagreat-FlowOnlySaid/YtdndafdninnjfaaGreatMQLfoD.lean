/-
  slices.Insert of one name into a list of names that is known whole: in place, at the end, or into new memory.
-/
import Derived.Test.YtdndafdninnjfaaGreatMQLfoC
import Derived.Maps.AppendAt
import Derived.Shelf.Spec.SlicesInsertGrow
namespace Go.Proofs.YtdndafdninnjfaaGreat
open Go.RowKit

/-- a row's cells, as they lie -/
theorem OwnD.cells {w : World} {base n cap g : Nat} {xs : List Int} (h : OwnD w base (.slice (some ⟨g, 0, none⟩) n cap) n xs) : ∃ X : List Value, Blk w g 41 X.toArray ∧ X.length = cap ∧ X.take n = xs.map (Value.int .i64) ∧ n ≤ cap ∧ cap ≤ maxLen ∧ base ≤ g := by
  rcases h.2 with ⟨e, _⟩ | ⟨g', cap', cur, e, hb, hg, hn1, hm, hs, ht⟩
  · injection e with e _ _
    cases e
  · injection e with e1 _ e3
    injection e1 with e1
    injection e1 with e1 _ _
    subst e1 e3
    refine ⟨cur.toList, by unfold Blk; rw [Array.toArray_toList]; exact hg, by rw [Array.length_toList]; omega, by rw [Nat.mul_one] at ht; exact ht, hn1, hm, hb⟩
theorem OwnD.of_cells {w : World} {base n cap g : Nat} {xs : List Int} {X : List Value} (hb : Blk w g 41 X.toArray) (hl : X.length = cap) (ht : X.take n = xs.map (Value.int .i64)) (hn : n ≤ cap) (hm : cap ≤ maxLen) (hg : base ≤ g) : OwnD w base (.slice (some ⟨g, 0, none⟩) n cap) n xs := by
  have e := congrArg List.length ht
  rw [List.length_take, List.length_map] at e
  exact ⟨by rw [List.length_map, Nat.mul_one]; omega, Or.inr ⟨g, cap, X.toArray, rfl, hg, hb, hn, hm, by simp [hl], by rw [Nat.mul_one]; exact ht⟩⟩
theorem OwnD.at_ {w : World} {base n cap g : Nat} {xs : List Int} (h : OwnD w base (.slice (some ⟨g, 0, none⟩) n cap) n xs) {j : Nat} {x : Int} (hx : xs[j]? = some x) : w.cell? ⟨g, j, none⟩ = some (.int .i64 x) := by
  obtain ⟨X, hb, hl, ht, hn, hm, _⟩ := h.cells
  have hj : j < n := by have := (List.getElem?_eq_some_iff.1 hx).1; have := h.len; omega
  rw [hb.cell]
  have : (X.take n)[j]? = (xs.map (Value.int .i64))[j]? := by rw [ht]
  rw [List.getElem?_take_of_lt hj, List.getElem?_map, hx] at this
  simpa using this
theorem OwnD.some_ {w : World} {base n cap g : Nat} {xs : List Int} (h : OwnD w base (.slice (some ⟨g, 0, none⟩) n cap) n xs) {j : Nat} (hj : j < cap) : (w.cell? ⟨g, j, none⟩).isSome = true := by
  obtain ⟨X, hb, hl, ht, hn, hm, _⟩ := h.cells
  rw [hb.cell]
  simp [hl, hj]
theorem OwnD.frozen {w : World} {base n cap g : Nat} {xs : List Int} (h : OwnD w base (.slice (some ⟨g, 0, none⟩) n cap) n xs) (j : Nat) : w.frozen? ⟨g, j, none⟩ = false := by
  obtain ⟨X, hb, _⟩ := h.cells
  exact hb.frozen j
theorem one_enc (l : List Int) : ∀ v ∈ l.map (Value.int .i64), v.oneCell' = true := fun v hv => by
  obtain ⟨y, _, rfl⟩ := List.mem_map.1 hv
  rfl
theorem take_splice {X : List Value} {xs : List Int} {n i : Nat} {c : Int} (ht : X.take n = xs.map (Value.int .i64)) (hl : n + 1 ≤ X.length) (hx : xs.length = n) (hi : i ≤ n) :
    (splice (splice X (i + 1) ((xs.drop i).map (Value.int .i64))) i [.int .i64 c]).take (n + 1) = (xs.take i ++ c :: xs.drop i).map (Value.int .i64) := by
  have hd : ((xs.drop i).map (Value.int .i64)).length = n - i := by rw [List.length_map, List.length_drop]; omega
  have h1 : X.take i = (xs.take i).map (Value.int .i64) := by rw [List.map_take, ← ht, List.take_take, Nat.min_eq_left hi]
  have h2 : (X.take (i + 1) ++ (xs.drop i).map (Value.int .i64) ++ X.drop (i + 1 + ((xs.drop i).map (Value.int .i64)).length)).take i = X.take i := by
    rw [List.append_assoc, List.take_append_of_le_length (by rw [List.length_take]; omega), List.take_take, Nat.min_eq_left (by omega)]
  have h3 : (X.take (i + 1) ++ (xs.drop i).map (Value.int .i64) ++ X.drop (i + 1 + ((xs.drop i).map (Value.int .i64)).length)).drop (i + 1) = (xs.drop i).map (Value.int .i64) ++ X.drop (n + 1) := by
    rw [List.append_assoc, List.drop_append_of_le_length (by rw [List.length_take]; omega), List.drop_take, Nat.sub_self, List.take_zero, List.nil_append, hd, show i + 1 + (n - i) = n + 1 by omega]
  unfold splice
  rw [show i + [Value.int .i64 c].length = i + 1 from rfl, h2, h3, h1, List.map_append, List.map_cons]
  rw [List.append_assoc, show ([Value.int .i64 c] ++ ((xs.drop i).map (Value.int .i64) ++ X.drop (n + 1))) = (Value.int .i64 c :: (xs.drop i).map (Value.int .i64)) ++ X.drop (n + 1) from rfl, ← List.append_assoc]
  rw [List.take_append_of_le_length (by rw [List.length_append, List.length_map, List.length_take, List.length_cons, hd]; omega)]
  exact List.take_of_length_le (by rw [List.length_append, List.length_map, List.length_take, List.length_cons, hd]; omega)

set_option maxHeartbeats 4000000 in
set_option maxRecDepth 100000 in
/-- in place -/
theorem ins9_shift {w : World} {base b n cap i vb : Nat} {xs : List Int} {c : Int} (h : OwnD w base (.slice (some ⟨b, 0, none⟩) n cap) n xs) (hv : Blk w vb 41 #[.int .i64 c]) (hvb : vb ≠ b) (hi : i < n) (hroom : n + 1 ≤ cap) :
    Calls Tryz.prog 111 #[.slice (some ⟨b, 0, none⟩) n cap, .int .i64 i, .slice (some ⟨vb, 0, none⟩) 1 1] w fun e w' =>
      e = .returned (.slice (some ⟨b, 0, none⟩) (n + 1) cap) ∧ w' = (w.drew.setCells b (i + 1) ((xs.drop i).map (Value.int .i64))).setCells b i [.int .i64 c] := by
  have hlen := h.len
  have mixed : Tryz.prog.follows Departure.mixedOrders = true := by kernel_rfl
  obtain ⟨X, hbk, hXl, _, _, hm, _⟩ := h.cells
  unfold maxLen at hm
  have hz2 : ¬ ((i : Int) = (n : Int)) := by omega
  have hsz : (Tryz.prog.info? 41).map (·.size) = some 1 := by
    obtain ⟨i0, hi0, h0, h1, h2⟩ := info_parts id_info
    rw [hi0]; simp [h1]
  have hsa : w.shape? vb = some (41, 1) := by
    unfold World.shape?
    rw [show w.heap[vb]? = _ from hv]
    rfl
  have hsb : w.shape? b = some (41, cap) := by
    unfold World.shape?
    rw [show w.heap[b]? = _ from hbk]
    simp [hXl]
  have hov : ∀ lb cb, (callFunc 118 #[.slice (some ⟨vb, 0, none⟩) 1 1, .slice (some ⟨b, i + 1, none⟩) lb cb]).run Tryz.prog w = .ok (.value (.bool false)) w := fun lb cb => by
    rw [run_callFunc_extern Tryz.func118 (by kernel_rfl) (by kernel_rfl) (by kernel_rfl) (e := Extern.SlicesOverlaps.overlaps #[24, 24] #[4]) (by kernel_rfl),
      Lib.run_overlaps_apart w 24 4 41 Tryz.underlying24 1 Tryz.sizeOf41 ⟨vb, 0, none⟩ ⟨b, i + 1, none⟩ 1 1 lb cb hvb 41 41 1 cap hsa hsb (by omega) (hv.frozen 0) (hv.frozen 1)]
    rfl
  have hdl : ((xs.drop i).map (Value.int .i64)).length = n - i := by rw [List.length_map, List.length_drop, hlen]
  have hw1 : IntKind.i64.wrap ((i : Int) + 1) = (i : Int) + 1 := by rw [IntKind.wrap_i64]; omega
  have hb1 : (0 : Int) ≤ (i : Int) + 1 := by omega
  have hin : i ≤ n := by omega
  have htn : ((i : Int) + 1).toNat = i + 1 := by omega
  have hb2 : ¬ (cap = i + 1) := by omega
  have hb3 : (i : Int) ≤ (n : Int) + 1 := by omega
  have hb4 : ¬ (cap = i) := by omega
  have hr1 : ¬ ((cap : Int) < (n : Int) + 1) := by omega
  obtain ⟨D, hD⟩ : ∃ D, D = (xs.drop i).map (Value.int .i64) := ⟨_, rfl⟩
  have hcp1 : ∀ ty dc sc, (Builtin.copy_ #[24, 24] ty #[.slice (some ⟨b, i + 1, none⟩) (n - i) dc, .slice (some ⟨b, i, none⟩) (n + 1 - i) sc]).run Tryz.prog w.drew = .ok (goInt D.length) (w.drew.setCells b (i + 1) D) := fun ty dc sc =>
    run_copy_cells w.drew _ _ ty 41 b (i + 1) (n - i) dc ⟨b, i, none⟩ (n + 1 - i) sc D Tryz.underlying24 hsz (by rw [hD, hdl]; simp only [Nat.min_def]; split <;> omega)
      (fun j v hj => by
        rw [Addr.add_lit]
        rw [hD, List.getElem?_map, List.getElem?_drop] at hj
        cases hq : xs[i + j]? with
        | none => rw [hq] at hj; cases hj
        | some y =>
          rw [hq] at hj
          injection hj with hj
          rw [← hj]
          exact h.at_ hq)
      (fun j hj => by rw [hD, hdl] at hj; exact h.some_ (by omega)) (fun j hj => h.frozen _) (by rw [hD]; exact one_enc _)
  obtain ⟨W1, hW1⟩ : ∃ W1, W1 = w.drew.setCells b (i + 1) D := ⟨_, rfl⟩
  have hsp1 : ∀ j, j < n + 1 → (W1.cell? ⟨b, j, none⟩).isSome = true := fun j hj => by
    rw [hW1]
    exact isSome_setCells b _ _ _ (fun q hq => by rw [hD, hdl] at hq; exact h.some_ (by omega)) _ (h.some_ (by omega))
  have hcp2 : ∀ (W : World), (∀ x, W.cell? x = W1.cell? x) → (∀ x, W.frozen? x = W1.frozen? x) → ∀ ty dc, (Builtin.copy_ #[24, 24] ty #[.slice (some ⟨b, i, none⟩) (n + 1 - i) dc, .slice (some ⟨vb, 0, none⟩) 1 1]).run Tryz.prog W = .ok (goInt 1) (W.setCells b i [.int .i64 c]) := fun W hWc hWf ty dc =>
    run_copy_cells W _ _ ty 41 b i (n + 1 - i) dc ⟨vb, 0, none⟩ 1 1 [.int .i64 c] Tryz.underlying24 hsz (by show 1 = _; simp only [Nat.min_def]; split <;> omega)
      (fun j v hj => by
        rw [Addr.add_lit, hWc, hW1, World.cell?_setCells_out b _ _ _ _ (fun h _ => absurd h hvb), Nat.zero_add]
        have := hv.cell j
        rw [show w.drew.cell? ⟨vb, j, none⟩ = w.cell? ⟨vb, j, none⟩ from rfl, this]
        simpa using hj)
      (fun j hj => by rw [hWc]; exact hsp1 _ (by simp at hj; omega)) (fun j hj => by rw [hWf, hW1, World.frozen?_setCells]; exact h.frozen _) (by intro u hu; simp at hu; subst hu; rfl)
  rw [← hW1] at hcp1
  rw [← hD, ← hW1]
  clear hD hsp1 hsa hsb hsz hdl hbk hXl
  go_enter Tryz.func111, Tryz.ntmps111
  go_wp2_with (simp only [hov])
  go_region_law_o (refine step_copy_runI rfl _ _ 24 24 rfl _ _ (by simp [Act.eval, Act.put]) (by simp [Act.eval, Act.put]) (hcp1 _ _ _) ?_)
  go_wp2_with (at_builtin; refine wpList_copy_runI _ rfl _ _ 24 24 rfl _ _ rfl rfl (hcp2 _ (fun _ => rfl) (fun _ => rfl) _ _) ?_)
  go_ret
  exact ⟨rfl, by rw [hW1]⟩

set_option maxHeartbeats 4000000 in
set_option maxRecDepth 100000 in
/-- at the end -/
theorem ins9_end {w : World} {base n vb : Nat} {v : Value} {xs : List Int} {c : Int} (h : OwnD w base v n xs) (hbs : base ≤ w.heap.size) (hv : Blk w vb 41 #[.int .i64 c]) (hn : n ≤ 100000) :
    Calls Tryz.prog 111 #[v, .int .i64 n, .slice (some ⟨vb, 0, none⟩) 1 1] w fun e w' =>
      ∃ v', e = .returned v' ∧ OwnD w' base v' (n + 1) (xs ++ [c]) ∧ w.grownBy w' v.ownBlock ∧ (v'.ownBlock = v.ownBlock ∨ v'.ownBlock = some w.heap.size) := by
  obtain ⟨i0, hi0, hz0, hz1, hz2⟩ := info_parts id_info
  have HI := Lib.hid (And.intro hi0 (And.intro hz0 (And.intro hz1 hz2)))
  have HO := Lib.hid h
  have HV : Hid (∀ j u, [Value.int .i64 c][j]? = some u → w.cell? ((⟨vb, 0, none⟩ : Addr).add j) = some u) := Lib.hid (fun j u hj => by
    rw [Addr.add_lit, Nat.zero_add, hv.cell j]
    simpa using hj)
  clear hi0 hz0 hz1 hz2 hv
  rcases h.2 with ⟨rfl, h0⟩ | ⟨g, cap, cur, rfl, hb, hg, hn1, hm, hs, ht⟩
  · subst h0
    clear h
    go_enter Tryz.func111, Tryz.ntmps111
    go_wp2_with (at_builtin; refine wpList_append_own_at _ rfl (.tmp 23) (.tmp 24) 24 rfl base 41 i0 (.int .i64 0) 1 8 Tryz.underlying24 HI.out.1 HI.out.2.1 HI.out.2.2.1 HI.out.2.2.2 rfl (by decide) _ _ _ rfl HO.out ⟨vb, 0, none⟩ 1 1 [.int .i64 c] rfl rfl HV.out (by intro u hu; simp at hu; subst hu; rfl) (by unfold maxLen; omega) (by omega) hbs ?_)
    intro v' w' k1 k2 _ k3
    have K : Hid (OwnD w' base v' (0 + 1) (xs ++ [c]) ∧ w.grownBy w' (Value.slice none 0 0).ownBlock ∧ (v'.ownBlock = (Value.slice none 0 0).ownBlock ∨ v'.ownBlock = some w.heap.size)) := Lib.hid ⟨by unfold OwnD; rw [List.map_append]; exact k1, k2, k3⟩
    clear k1 k2 k3
    go_wp2
    go_ret
    exact ⟨_, rfl, K.out⟩
  · clear hb hg hs ht h
    unfold maxLen at hm
    go_enter Tryz.func111, Tryz.ntmps111
    go_wp2_with (at_builtin; refine wpList_append_own_at _ rfl (.tmp 23) (.tmp 24) 24 rfl base 41 i0 (.int .i64 0) 1 8 Tryz.underlying24 HI.out.1 HI.out.2.1 HI.out.2.2.1 HI.out.2.2.2 rfl (by decide) _ _ _ rfl HO.out ⟨vb, 0, none⟩ 1 1 [.int .i64 c] rfl rfl HV.out (by intro u hu; simp at hu; subst hu; rfl) (by unfold maxLen; omega) (by omega) hbs ?_)
    all_goals (
        intro v' w' k1 k2 _ k3
        have K : Hid (OwnD w' base v' (n + 1) (xs ++ [c]) ∧ w.grownBy w' (Value.slice (some ⟨g, 0, none⟩) n cap).ownBlock ∧ (v'.ownBlock = (Value.slice (some ⟨g, 0, none⟩) n cap).ownBlock ∨ v'.ownBlock = some w.heap.size)) := Lib.hid ⟨by unfold OwnD; rw [List.map_append]; exact k1, k2, k3⟩
        clear k1 k2 k3
        go_wp2
        go_ret
        exact ⟨_, rfl, K.out⟩)

set_option maxHeartbeats 4000000 in
set_option maxRecDepth 100000 in
/-- into new memory -/
theorem ins9_grow {w : World} {base b n cap i vb : Nat} {xs : List Int} {c : Int} (h : OwnD w base (.slice (some ⟨b, 0, none⟩) n cap) n xs) (hv : Blk w vb 41 #[.int .i64 c]) (hi : i < n) (hroom : cap < n + 1) (hn : n ≤ 100000) :
    Calls Tryz.prog 111 #[.slice (some ⟨b, 0, none⟩) n cap, .int .i64 i, .slice (some ⟨vb, 0, none⟩) 1 1] w fun e w' =>
      ∃ (G : Nat) (ROW : List Value), e = .returned (.slice (some ⟨w.heap.size, 0, none⟩) (n + 1) G) ∧ n + 1 ≤ G ∧ G ≤ maxLen ∧ ROW.length = G ∧ ROW.take i = (xs.take i).map (Value.int .i64) ∧
        w' = (((w.alloc (.cells ROW.toArray 41)).drew.setCells w.heap.size i [.int .i64 c]).drew).setCells w.heap.size (i + 1) ((xs.drop i).map (Value.int .i64)) := by
  have hlen := h.len
  have mixed : Tryz.prog.follows Departure.mixedOrders = true := by kernel_rfl
  obtain ⟨X, hbk, hXl, hXt, hnc, hm, _⟩ := h.cells
  unfold maxLen at hm
  obtain ⟨i0, hi0, hz0, hzs, hzb⟩ := info_parts id_info
  have hz2 : ¬ ((i : Int) = (n : Int)) := by omega
  have hz3 : (cap : Int) < (n : Int) + 1 := by omega
  have hsz : (Tryz.prog.info? 41).map (·.size) = some 1 := by rw [hi0]; simp [hzs]
  have hbw := hbk.lt
  have hvw := hv.lt
  have hkk : (n : Int) + 1 - (i : Int) = ((n + 1 - i : Nat) : Int) := by omega
  have hik : i + (n + 1 - i) = n + 1 := by omega
  obtain ⟨A, hA⟩ : ∃ A, A = (xs.take i).map (Value.int .i64) := ⟨_, rfl⟩
  have hAl : A.length = i := by rw [hA, List.length_map, List.length_take]; omega
  have hold : (Builtin.firstCells i0.size i (.slice (some ⟨b, 0, none⟩) i cap)).run Tryz.prog w.drew = .ok A.toArray w.drew := by
    rw [hzs]
    exact run_firstCells_some w.drew 1 i ⟨b, 0, none⟩ i cap A (by omega) (fun j v hj => by
      rw [Addr.add_lit, Nat.zero_add]
      rw [hA, List.getElem?_map] at hj
      cases hq : (xs.take i)[j]? with
      | none => rw [hq] at hj; cases hj
      | some y =>
        rw [hq] at hj
        injection hj with hj
        rw [← hj]
        rw [List.getElem?_take] at hq
        split at hq
        · exact h.at_ hq
        · cases hq)
  have hrz : ∀ ty, (Builtin.append_ #[24, 3] ty #[.slice (some ⟨b, 0, none⟩) i cap, .int .i64 ((n : Int) + 1 - (i : Int))]).run Tryz.prog w =
      .ok (.slice (some ⟨w.heap.size, 0, none⟩) (n + 1) (grownCap w (n + 1) cap 41)) (w.drew.alloc (.cells (A.toArray ++ Builtin.zeroCells (Value.int .i64 0).cells (n + 1 - i) ++ Builtin.zeroCells (Value.int .i64 0).cells (grownCap w (n + 1) cap 41 - (n + 1))) 41)) := fun ty => by
    have h := Lib.run_append_grow_zeros w 24 3 ty 41 i0 _ .i64 .i64 Tryz.underlying24 Tryz.underlying3 hi0 hz0 (some ⟨b, 0, none⟩) i cap A hold (n + 1 - i) (by omega) (by omega) (by omega) (by omega) (by rw [hzb]; omega) (by rw [hzb, hik]; exact growslice_fits hroom (by omega))
    rw [hik] at h
    rw [hkk]
    exact h
  obtain ⟨G, hG⟩ : ∃ G, G = grownCap w (n + 1) cap 41 := ⟨_, rfl⟩
  have hGn : n + 1 ≤ G := by rw [hG]; exact grownCap_ge w _ _ _
  have hG63 : G ≤ 9223372036854775807 := by
    have := grownCap_le_maxLen w (n + 1) cap 41 (by unfold maxLen; omega)
    rw [← hG] at this
    unfold maxLen at this
    omega
  obtain ⟨ROW, hROW⟩ : ∃ ROW : List Value, ROW = (A.toArray ++ Builtin.zeroCells (Value.int .i64 0).cells (n + 1 - i) ++ Builtin.zeroCells (Value.int .i64 0).cells (G - (n + 1))).toList := ⟨_, rfl⟩
  have hRO : A.toArray ++ Builtin.zeroCells (Value.int .i64 0).cells (n + 1 - i) ++ Builtin.zeroCells (Value.int .i64 0).cells (G - (n + 1)) = ROW.toArray := by rw [hROW, Array.toArray_toList]
  rw [← hG] at hrz
  simp only [hRO] at hrz
  have hRl : ROW.length = G := by
    rw [hROW]
    simp [Builtin.zeroCells, Value.cells, hAl]
    omega
  have HRt : Hid (ROW.take i = (xs.take i).map (Value.int .i64)) := Lib.hid (by
    rw [hROW, ← hA, Array.toList_append, Array.toList_append, List.append_assoc, List.take_append_of_le_length (by simp [hAl]), List.take_of_length_le (by simp [hAl])])
  have HRl := Lib.hid (And.intro hGn (And.intro hG63 hRl))
  obtain ⟨W1, hW1⟩ : ∃ W1, W1 = w.drew.alloc (.cells ROW.toArray 41) := ⟨_, rfl⟩
  rw [← hW1] at hrz
  have hN : ∀ j, j < n + 1 → (W1.cell? ⟨w.heap.size, j, none⟩).isSome = true := fun j hj => by
    rw [hW1, World.cell?_alloc_at (w := w.drew) ROW.toArray _ w.heap.size j rfl, Array.getElem?_eq_getElem (by simp; omega)]; rfl
  have hNf : ∀ j, W1.frozen? ⟨w.heap.size, j, none⟩ = false := fun j => by rw [hW1]; exact World.frozen?_alloc_at (w := w.drew) ROW.toArray _ w.heap.size j rfl
  have hOb : ∀ j v, w.cell? ⟨b, j, none⟩ = some v → W1.cell? ⟨b, j, none⟩ = some v := fun j v h => by rw [hW1, World.cell?_alloc_past (w := w.drew) _ b j hbw]; exact h
  have hOv : ∀ j v, w.cell? ⟨vb, j, none⟩ = some v → W1.cell? ⟨vb, j, none⟩ = some v := fun j v h => by rw [hW1, World.cell?_alloc_past (w := w.drew) _ vb j hvw]; exact h
  have hcpA : ∀ (W : World), (∀ x, W.cell? x = W1.cell? x) → (∀ x, W.frozen? x = W1.frozen? x) → ∀ ty dc, (Builtin.copy_ #[24, 24] ty #[.slice (some ⟨w.heap.size, i, none⟩) (n + 1 - i) dc, .slice (some ⟨vb, 0, none⟩) 1 1]).run Tryz.prog W = .ok (goInt 1) (W.setCells w.heap.size i [.int .i64 c]) := fun W hWc hWf ty dc =>
    run_copy_cells W _ _ ty 41 w.heap.size i (n + 1 - i) dc ⟨vb, 0, none⟩ 1 1 [.int .i64 c] Tryz.underlying24 hsz (by show 1 = _; simp only [Nat.min_def]; split <;> omega)
      (fun j v hj => by
        rw [Addr.add_lit, hWc, Nat.zero_add]
        refine hOv j v ?_
        rw [hv.cell j]
        simpa using hj)
      (fun j hj => by rw [hWc]; exact hN _ (by simp at hj; omega)) (fun j hj => by rw [hWf]; exact hNf _) (by intro u hu; simp at hu; subst hu; rfl)
  have hGi : ¬ (G = i) := by omega
  have hGim : ¬ (G = i + 1) := by omega
  have hci : ¬ (cap = i) := by omega
  have hbN : b ≠ w.heap.size := by omega
  obtain ⟨D, hD⟩ : ∃ D, D = (xs.drop i).map (Value.int .i64) := ⟨_, rfl⟩
  have hdl : D.length = n - i := by rw [hD, List.length_map, List.length_drop, hlen]
  have hcpB : ∀ (W : World), (∀ x, W.cell? x = (W1.setCells w.heap.size i [.int .i64 c]).cell? x) → (∀ x, W.frozen? x = (W1.setCells w.heap.size i [.int .i64 c]).frozen? x) → ∀ ty dc sc, (Builtin.copy_ #[24, 24] ty #[.slice (some ⟨w.heap.size, i + 1, none⟩) (n - i) dc, .slice (some ⟨b, i, none⟩) (n - i) sc]).run Tryz.prog W = .ok (goInt D.length) (W.setCells w.heap.size (i + 1) D) := fun W hWc hWf ty dc sc =>
    run_copy_cells W _ _ ty 41 w.heap.size (i + 1) (n - i) dc ⟨b, i, none⟩ (n - i) sc D Tryz.underlying24 hsz (by rw [hdl]; simp only [Nat.min_def]; split <;> omega)
      (fun j v hj => by
        rw [Addr.add_lit, hWc, World.cell?_setCells_out _ _ _ _ _ (fun h _ => absurd h hbN)]
        refine hOb _ v ?_
        rw [hD, List.getElem?_map, List.getElem?_drop] at hj
        cases hq : xs[i + j]? with
        | none => rw [hq] at hj; cases hj
        | some y =>
          rw [hq] at hj
          injection hj with hj
          rw [← hj]
          exact h.at_ hq)
      (fun j hj => by rw [hWc]; exact isSome_setCells _ _ _ _ (fun t ht => hN _ (by simp at ht; omega)) _ (hN _ (by omega)))
      (fun j hj => by rw [hWf, World.frozen?_setCells]; exact hNf _) (by rw [hD]; exact one_enc _)
  subst hW1
  have hE1 : ∀ x, ((w.alloc (.cells ROW.toArray 41)).drew).cell? x = (w.drew.alloc (.cells ROW.toArray 41)).cell? x := fun x => rfl
  have hE2 : ∀ x, ((w.alloc (.cells ROW.toArray 41)).drew).frozen? x = (w.drew.alloc (.cells ROW.toArray 41)).frozen? x := fun x => rfl
  have hF1 : ∀ x, (((w.alloc (.cells ROW.toArray 41)).drew.setCells w.heap.size i [.int .i64 c]).drew).cell? x = ((w.drew.alloc (.cells ROW.toArray 41)).setCells w.heap.size i [.int .i64 c]).cell? x := fun x => rfl
  have hF2 : ∀ x, (((w.alloc (.cells ROW.toArray 41)).drew.setCells w.heap.size i [.int .i64 c]).drew).frozen? x = ((w.drew.alloc (.cells ROW.toArray 41)).setCells w.heap.size i [.int .i64 c]).frozen? x := fun x => rfl
  have hw1 : IntKind.i64.wrap ((i : Int) + 1) = (i : Int) + 1 := by rw [IntKind.wrap_i64]; omega
  have hb1 : (0 : Int) ≤ (i : Int) + 1 := by omega
  have hin : i ≤ n := by omega
  have htn : ((i : Int) + 1).toNat = i + 1 := by omega
  have hb3 : (i : Int) ≤ (n : Int) := by omega
  rw [← hD]
  clear hkk hik hold hROW hRO hG hRl hA hAl hN hNf hOb hOv hXt hXl hbk hsz hzs hzb hi0 hz0 hD
  go_enter Tryz.func111, Tryz.ntmps111
  go_wp2_with (first
    | (at_builtin; refine Lib.wpList_append_run _ rfl _ _ _ _ rfl _ _ rfl rfl _ _ (hrz _) ?_)
    | (at_builtin; refine wpList_copy_runI _ rfl _ _ 24 24 rfl _ _ rfl rfl (hcpA _ hE1 hE2 _ _) ?_))
  go_region_law_o (refine step_copy_runI rfl _ _ 24 24 rfl (.slice (some ⟨w.heap.size, i + 1, none⟩) (n - i) (G - (i + 1))) (.slice (some ⟨b, i, none⟩) (n - i) (cap - i)) (by simp [Act.eval, Act.put]) (by simp [Act.eval, Act.put]) (hcpB _ hF1 hF2 3 (G - (i + 1)) (cap - i)) ?_)
  go_wp2
  go_ret
  exact ⟨G, ROW, rfl, HRl.out.1, by unfold maxLen; exact HRl.out.2.1, HRl.out.2.2, HRt.out, rfl⟩

end Go.Proofs.YtdndafdninnjfaaGreat
