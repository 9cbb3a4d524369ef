/-
  What the landed table's read answers.
-/
import Derived.Test.YtcpgkkphibhdfaaGreatTapH
namespace Go.Proofs.YtcpgkkphibhdfaaGreat
open Go.RowKit

/-- what a row's cells are, of each column -/
def rdL (X : Nat → TR) (row : Nat) : List Value := PL 0 ((X 1).getD row d0).2.2.1 ((X 2).getD row d0).2.2.2.1 ((X 3).getD row d0).2.2.2.2.1 ((X 4).getD row d0).2.2.2.2.2.1 ((X 5).getD row d0).2.2.2.2.2.2.1 ((X 6).getD row d0).2.2.2.2.2.2.2.1 ((X 7).getD row d0).2.2.2.2.2.2.2.2
set_option maxHeartbeats 8000000 in
set_option maxRecDepth 100000 in
theorem read_any {g : Nat} {s : Int} {v : Nat → Value} {X : Nat → TR} {w : World} (h0 : Tab w g s v X) (hX : ∀ i, i < 8 → (X i).length ≤ 1000) (row : Nat) :
    Calls Tryz.prog 79 #[.pointer (some ⟨g, 1, none⟩), .int .i64 row] w fun e w' => e = .returned (.agg (rdL X row).toArray) ∧ Below w.heap.size w w' := by
  have HX := Lib.hid hX
  obtain ⟨M, hM⟩ : ∃ M, M = ((X 1).getD row d0).2.2.1 := ⟨_, rfl⟩
  obtain ⟨m, hm⟩ : ∃ m, m = ((X 2).getD row d0).2.2.2.1 := ⟨_, rfl⟩
  obtain ⟨B, hB⟩ : ∃ B, B = ((X 3).getD row d0).2.2.2.2.1 := ⟨_, rfl⟩
  obtain ⟨p, hp⟩ : ∃ p, p = ((X 4).getD row d0).2.2.2.2.2.1 := ⟨_, rfl⟩
  obtain ⟨a, ha⟩ : ∃ a, a = ((X 5).getD row d0).2.2.2.2.2.2.1 := ⟨_, rfl⟩
  obtain ⟨c, hc⟩ : ∃ c, c = ((X 6).getD row d0).2.2.2.2.2.2.2.1 := ⟨_, rfl⟩
  obtain ⟨l, hl⟩ : ∃ l, l = ((X 7).getD row d0).2.2.2.2.2.2.2.2 := ⟨_, rfl⟩
  have HE : Hid (rdL X row = PL 0 M m B p a c l) := Lib.hid (by unfold rdL; rw [hM, hm, hB, hp, ha, hc, hl])
  have HSz := Lib.hid (size_parts 0 M m B p a c l)
  have HSz' : Hid ((Tryz.prog.info? 44).map (·.size) = some (PL 0 M m B p a c l).toArray.size) := Lib.hid (size_parts 0 M m B p a c l)
  have HO := Lib.hid (PL_one 0 M m B p a c l)
  have HL : Hid ((PL 0 M m B p a c l).length = 24) := Lib.hid rfl
  have A1 : Hid (∀ u, Below w.heap.size w u → Calls Tryz.prog 109 #[v 1, .int .i64 row] u fun e w' => e = .returned (.agg #[.int .i64 (M 0), .int .i64 (M 1), .int .i64 (M 2), .int .i64 (M 3), .int .i64 (M 4), .int .i64 (M 5), .int .i64 (M 6), .int .i64 (M 7), .int .i64 (M 8), .int .i64 (M 9), .int .i64 (M 10), .int .i64 (M 11)]) ∧ Below u.heap.size u w') := Lib.hid (fun u k => (at_mat (fun x => x.2.2.1) (v 1) (X 1) row u ((h0.keep k).own 1 (by omega)) (hX 1 (by omega)) (fun _ => rfl)).mono (fun _ _ k => ⟨by rw [k.1, hM], k.2⟩))
  have A2 : Hid (∀ u, Below w.heap.size w u → Calls Tryz.prog 110 #[v 2, .int .i64 row] u fun e w' => e = .returned (.int .i64 m) ∧ Below u.heap.size u w') := Lib.hid (fun u k => (at_int (fun x => x.2.2.2.1) (v 2) (X 2) row u ((h0.keep k).own 2 (by omega)) (hX 2 (by omega)) rfl).mono (fun _ _ k => ⟨by rw [k.1, hm], k.2 ▸ Below.refl _ _⟩))
  have A3 : Hid (∀ u, Below w.heap.size w u → Calls Tryz.prog 111 #[v 3, .int .i64 row] u fun e w' => e = .returned (.agg #[.int .i64 (B 0), .int .i64 (B 1), .int .i64 (B 2), .int .i64 (B 3), .int .i64 (B 4), .int .i64 (B 5)]) ∧ Below u.heap.size u w') := Lib.hid (fun u k => (at_box (fun x => x.2.2.2.2.1) (v 3) (X 3) row u ((h0.keep k).own 3 (by omega)) (hX 3 (by omega)) (fun _ => rfl)).mono (fun _ _ k => ⟨by rw [k.1, hB], k.2⟩))
  have A4 : Hid (∀ u, Below w.heap.size w u → Calls Tryz.prog 110 #[v 4, .int .i64 row] u fun e w' => e = .returned (.int .i64 p) ∧ Below u.heap.size u w') := Lib.hid (fun u k => (at_int (fun x => x.2.2.2.2.2.1) (v 4) (X 4) row u ((h0.keep k).own 4 (by omega)) (hX 4 (by omega)) rfl).mono (fun _ _ k => ⟨by rw [k.1, hp], k.2 ▸ Below.refl _ _⟩))
  have A5 : Hid (∀ u, Below w.heap.size w u → Calls Tryz.prog 110 #[v 5, .int .i64 row] u fun e w' => e = .returned (.int .i64 a) ∧ Below u.heap.size u w') := Lib.hid (fun u k => (at_int (fun x => x.2.2.2.2.2.2.1) (v 5) (X 5) row u ((h0.keep k).own 5 (by omega)) (hX 5 (by omega)) rfl).mono (fun _ _ k => ⟨by rw [k.1, ha], k.2 ▸ Below.refl _ _⟩))
  have A6 : Hid (∀ u, Below w.heap.size w u → Calls Tryz.prog 112 #[v 6, .int .i64 row] u fun e w' => e = .returned (.bool c) ∧ Below u.heap.size u w') := Lib.hid (fun u k => (at_bool (fun x => x.2.2.2.2.2.2.2.1) (v 6) (X 6) row u ((h0.keep k).own 6 (by omega)) (hX 6 (by omega)) rfl).mono (fun _ _ k => ⟨by rw [k.1, hc], k.2 ▸ Below.refl _ _⟩))
  have A7 : Hid (∀ u, Below w.heap.size w u → Calls Tryz.prog 110 #[v 7, .int .i64 row] u fun e w' => e = .returned (.int .i64 l) ∧ Below u.heap.size u w') := Lib.hid (fun u k => (at_int (fun x => x.2.2.2.2.2.2.2.2) (v 7) (X 7) row u ((h0.keep k).own 7 (by omega)) (hX 7 (by omega)) rfl).mono (fun _ _ k => ⟨by rw [k.1, hl], k.2 ▸ Below.refl _ _⟩))
  have CC : Hid (∀ u, Below w.heap.size w u → u.cell? ⟨g, 2, none⟩ = some (v 1) ∧ u.cell? ⟨g, 3, none⟩ = some (v 2) ∧ u.cell? ⟨g, 4, none⟩ = some (v 3) ∧ u.cell? ⟨g, 5, none⟩ = some (v 4) ∧ u.cell? ⟨g, 6, none⟩ = some (v 5) ∧ u.cell? ⟨g, 7, none⟩ = some (v 6) ∧ u.cell? ⟨g, 8, none⟩ = some (v 7)) := Lib.hid (fun u k => ⟨((h0.keep k).cell (j := 1) (by omega)).1, ((h0.keep k).cell (j := 2) (by omega)).1, ((h0.keep k).cell (j := 3) (by omega)).1, ((h0.keep k).cell (j := 4) (by omega)).1, ((h0.keep k).cell (j := 5) (by omega)).1, ((h0.keep k).cell (j := 6) (by omega)).1, ((h0.keep k).cell (j := 7) (by omega)).1⟩)
  have hg := h0.blk.lt
  rw [HE.out]
  obtain ⟨u1, hu1⟩ : ∃ u1, u1 = v 1 := ⟨_, rfl⟩
  rw [← hu1] at A1 CC
  clear hu1
  obtain ⟨u2, hu2⟩ : ∃ u2, u2 = v 2 := ⟨_, rfl⟩
  rw [← hu2] at A2 CC
  clear hu2
  obtain ⟨u3, hu3⟩ : ∃ u3, u3 = v 3 := ⟨_, rfl⟩
  rw [← hu3] at A3 CC
  clear hu3
  obtain ⟨u4, hu4⟩ : ∃ u4, u4 = v 4 := ⟨_, rfl⟩
  rw [← hu4] at A4 CC
  clear hu4
  obtain ⟨u5, hu5⟩ : ∃ u5, u5 = v 5 := ⟨_, rfl⟩
  rw [← hu5] at A5 CC
  clear hu5
  obtain ⟨u6, hu6⟩ : ∃ u6, u6 = v 6 := ⟨_, rfl⟩
  rw [← hu6] at A6 CC
  clear hu6
  obtain ⟨u7, hu7⟩ : ∃ u7, u7 = v 7 := ⟨_, rfl⟩
  rw [← hu7] at A7 CC
  clear hu7
  clear hM hm hB hp ha hc hl h0 hX HE HX
  have KR := Lib.hid (Blk.new w 44 Z24.toArray)
  have HB : Hid (Below w.heap.size w (w.alloc (.cells Z24.toArray 44))) := Lib.hid (alloc_below _ _)
  go_enter Tryz.func79, Tryz.ntmps79
  go_upto_region 1 with fail
  refine fin (fun W => Blk W w.heap.size 44 Z24.toArray ∧ Below w.heap.size w W) ⟨KR.out, HB.out⟩ ?_
  rintro W ⟨kr, hb⟩
  replace KR := Lib.hid (Blk.drew kr)
  replace HB := Lib.hid (bdrw hb)
  clear kr hb
  refine wp_region_held_drew (S := fun w' => w'.cell? ⟨g, 2, none⟩ = some u1 ∧ w'.cell? ⟨g, 3, none⟩ = some u2 ∧ w'.cell? ⟨g, 4, none⟩ = some u3 ∧ w'.cell? ⟨g, 5, none⟩ = some u4 ∧ w'.cell? ⟨g, 6, none⟩ = some u5 ∧ w'.cell? ⟨g, 7, none⟩ = some u6 ∧ w'.cell? ⟨g, 8, none⟩ = some u7) (by kernel_rfl) (CC.out _ HB.out) (fun hHeld => ?_)
  refine wpAnyH_take (i := 0) (v := ?_) rfl (by kernel_rfl) (by kernel_rfl) (by kernel_rfl) (fun _ _ _ h => h) (Or.inl ⟨by rfl, ?_⟩) hHeld ?_
  rotate_left
  · intro w hSw
    obtain ⟨s1, s2, s3, s4, s5, s6, s7⟩ := hSw
    go_simp
    with_reducible rfl
  simp only [Act.put, List.getElem_toArray, List.getElem_cons_zero, List.setIfInBounds_toArray, List.set_cons_zero, List.set_cons_succ]
  refine wpAnyH_take (i := 1) (v := ?_) rfl (by kernel_rfl) (by kernel_rfl) (by kernel_rfl) (fun _ _ _ h => h) (Or.inl ⟨by rfl, ?_⟩) hHeld ?_
  rotate_left
  · intro w hSw
    obtain ⟨s1, s2, s3, s4, s5, s6, s7⟩ := hSw
    go_simp
    with_reducible rfl
  simp only [Act.put, List.getElem_toArray, List.getElem_cons_zero, List.getElem_cons_succ, List.setIfInBounds_toArray, List.set_cons_zero, List.set_cons_succ]
  refine wpAnyH_take (i := 2) (v := ?_) rfl (by kernel_rfl) (by kernel_rfl) (by kernel_rfl) (fun _ _ _ h => h) (Or.inl ⟨by rfl, ?_⟩) hHeld ?_
  rotate_left
  · intro w hSw
    obtain ⟨s1, s2, s3, s4, s5, s6, s7⟩ := hSw
    go_simp
    with_reducible rfl
  simp only [Act.put, List.getElem_toArray, List.getElem_cons_zero, List.getElem_cons_succ, List.setIfInBounds_toArray, List.set_cons_zero, List.set_cons_succ]
  refine wpAnyH_take (i := 3) (v := ?_) rfl (by kernel_rfl) (by kernel_rfl) (by kernel_rfl) (fun _ _ _ h => h) (Or.inl ⟨by rfl, ?_⟩) hHeld ?_
  rotate_left
  · intro w hSw
    obtain ⟨s1, s2, s3, s4, s5, s6, s7⟩ := hSw
    go_simp
    with_reducible rfl
  simp only [Act.put, List.getElem_toArray, List.getElem_cons_zero, List.getElem_cons_succ, List.setIfInBounds_toArray, List.set_cons_zero, List.set_cons_succ]
  refine wpAnyH_take (i := 4) (v := ?_) rfl (by kernel_rfl) (by kernel_rfl) (by kernel_rfl) (fun _ _ _ h => h) (Or.inl ⟨by rfl, ?_⟩) hHeld ?_
  rotate_left
  · intro w hSw
    obtain ⟨s1, s2, s3, s4, s5, s6, s7⟩ := hSw
    go_simp
    with_reducible rfl
  simp only [Act.put, List.getElem_toArray, List.getElem_cons_zero, List.getElem_cons_succ, List.setIfInBounds_toArray, List.set_cons_zero, List.set_cons_succ]
  refine wpAnyH_take (i := 6) (v := ?_) rfl (by kernel_rfl) (by kernel_rfl) (by kernel_rfl) (fun _ _ _ h => h) (Or.inl ⟨by rfl, ?_⟩) hHeld ?_
  rotate_left
  · intro w hSw
    obtain ⟨s1, s2, s3, s4, s5, s6, s7⟩ := hSw
    go_simp
    with_reducible rfl
  simp only [Act.put, List.getElem_toArray, List.getElem_cons_zero, List.getElem_cons_succ, List.setIfInBounds_toArray, List.set_cons_zero, List.set_cons_succ]
  refine wpAnyH_take (i := 7) (v := ?_) rfl (by kernel_rfl) (by kernel_rfl) (by kernel_rfl) (fun _ _ _ h => h) (Or.inl ⟨by rfl, ?_⟩) hHeld ?_
  rotate_left
  · intro w hSw
    obtain ⟨s1, s2, s3, s4, s5, s6, s7⟩ := hSw
    go_simp
    with_reducible rfl
  simp only [Act.put, List.getElem_toArray, List.getElem_cons_zero, List.getElem_cons_succ, List.setIfInBounds_toArray, List.set_cons_zero, List.set_cons_succ]
  refine wpAnyH_take (i := 8) (v := ?_) rfl (by kernel_rfl) (by kernel_rfl) (by kernel_rfl) (fun _ _ _ h => h) (Or.inl ⟨by rfl, ?_⟩) hHeld ?_
  rotate_left
  · intro w hSw
    obtain ⟨s1, s2, s3, s4, s5, s6, s7⟩ := hSw
    go_simp
    with_reducible rfl
  simp only [Act.put, List.getElem_toArray, List.getElem_cons_zero, List.getElem_cons_succ, List.setIfInBounds_toArray, List.set_cons_zero, List.set_cons_succ]
  refine wpAnyH_take (i := 9) (v := ?_) rfl (by kernel_rfl) (by kernel_rfl) (by kernel_rfl) (fun _ _ _ h => h) (Or.inl ⟨by rfl, ?_⟩) hHeld ?_
  rotate_left
  · intro w hSw
    obtain ⟨s1, s2, s3, s4, s5, s6, s7⟩ := hSw
    go_simp
    with_reducible rfl
  simp only [Act.put, List.getElem_toArray, List.getElem_cons_zero, List.getElem_cons_succ, List.setIfInBounds_toArray, List.set_cons_zero, List.set_cons_succ]
  refine wpAnyH_take (i := 10) (v := ?_) rfl (by kernel_rfl) (by kernel_rfl) (by kernel_rfl) (fun _ _ _ h => h) (Or.inl ⟨by rfl, ?_⟩) hHeld ?_
  rotate_left
  · intro w hSw
    obtain ⟨s1, s2, s3, s4, s5, s6, s7⟩ := hSw
    go_simp
    with_reducible rfl
  simp only [Act.put, List.getElem_toArray, List.getElem_cons_zero, List.getElem_cons_succ, List.setIfInBounds_toArray, List.set_cons_zero, List.set_cons_succ]
  refine wpAnyH_take (i := 12) (v := ?_) rfl (by kernel_rfl) (by kernel_rfl) (by kernel_rfl) (fun _ _ _ h => h) (Or.inl ⟨by rfl, ?_⟩) hHeld ?_
  rotate_left
  · intro w hSw
    obtain ⟨s1, s2, s3, s4, s5, s6, s7⟩ := hSw
    go_simp
    with_reducible rfl
  simp only [Act.put, List.getElem_toArray, List.getElem_cons_zero, List.getElem_cons_succ, List.setIfInBounds_toArray, List.set_cons_zero, List.set_cons_succ]
  refine wpAnyH_take (i := 13) (v := ?_) rfl (by kernel_rfl) (by kernel_rfl) (by kernel_rfl) (fun _ _ _ h => h) (Or.inl ⟨by rfl, ?_⟩) hHeld ?_
  rotate_left
  · intro w hSw
    obtain ⟨s1, s2, s3, s4, s5, s6, s7⟩ := hSw
    go_simp
    with_reducible rfl
  simp only [Act.put, List.getElem_toArray, List.getElem_cons_zero, List.getElem_cons_succ, List.setIfInBounds_toArray, List.set_cons_zero, List.set_cons_succ]
  refine wpAnyH_take (i := 14) (v := ?_) rfl (by kernel_rfl) (by kernel_rfl) (by kernel_rfl) (fun _ _ _ h => h) (Or.inl ⟨by rfl, ?_⟩) hHeld ?_
  rotate_left
  · intro w hSw
    obtain ⟨s1, s2, s3, s4, s5, s6, s7⟩ := hSw
    go_simp
    with_reducible rfl
  simp only [Act.put, List.getElem_toArray, List.getElem_cons_zero, List.getElem_cons_succ, List.setIfInBounds_toArray, List.set_cons_zero, List.set_cons_succ]
  refine wpAnyH_take (i := 15) (v := ?_) rfl (by kernel_rfl) (by kernel_rfl) (by kernel_rfl) (fun _ _ _ h => h) (Or.inl ⟨by rfl, ?_⟩) hHeld ?_
  rotate_left
  · intro w hSw
    obtain ⟨s1, s2, s3, s4, s5, s6, s7⟩ := hSw
    go_simp
    with_reducible rfl
  simp only [Act.put, List.getElem_toArray, List.getElem_cons_zero, List.getElem_cons_succ, List.setIfInBounds_toArray, List.set_cons_zero, List.set_cons_succ]
  refine wpAnyH_take (i := 16) (v := ?_) rfl (by kernel_rfl) (by kernel_rfl) (by kernel_rfl) (fun _ _ _ h => h) (Or.inl ⟨by rfl, ?_⟩) hHeld ?_
  rotate_left
  · intro w hSw
    obtain ⟨s1, s2, s3, s4, s5, s6, s7⟩ := hSw
    go_simp
    with_reducible rfl
  simp only [Act.put, List.getElem_toArray, List.getElem_cons_zero, List.getElem_cons_succ, List.setIfInBounds_toArray, List.set_cons_zero, List.set_cons_succ]
  refine wpAnyH_take (i := 18) (v := ?_) rfl (by kernel_rfl) (by kernel_rfl) (by kernel_rfl) (fun _ _ _ h => h) (Or.inl ⟨by rfl, ?_⟩) hHeld ?_
  rotate_left
  · intro w hSw
    obtain ⟨s1, s2, s3, s4, s5, s6, s7⟩ := hSw
    go_simp
    with_reducible rfl
  simp only [Act.put, List.getElem_toArray, List.getElem_cons_zero, List.getElem_cons_succ, List.setIfInBounds_toArray, List.set_cons_zero, List.set_cons_succ]
  refine wpAnyH_take (i := 19) (v := ?_) rfl (by kernel_rfl) (by kernel_rfl) (by kernel_rfl) (fun _ _ _ h => h) (Or.inl ⟨by rfl, ?_⟩) hHeld ?_
  rotate_left
  · intro w hSw
    obtain ⟨s1, s2, s3, s4, s5, s6, s7⟩ := hSw
    go_simp
    with_reducible rfl
  simp only [Act.put, List.getElem_toArray, List.getElem_cons_zero, List.getElem_cons_succ, List.setIfInBounds_toArray, List.set_cons_zero, List.set_cons_succ]
  refine wpAnyH_take (i := 20) (v := ?_) rfl (by kernel_rfl) (by kernel_rfl) (by kernel_rfl) (fun _ _ _ h => h) (Or.inl ⟨by rfl, ?_⟩) hHeld ?_
  rotate_left
  · intro w hSw
    obtain ⟨s1, s2, s3, s4, s5, s6, s7⟩ := hSw
    go_simp
    with_reducible rfl
  simp only [Act.put, List.getElem_toArray, List.getElem_cons_zero, List.getElem_cons_succ, List.setIfInBounds_toArray, List.set_cons_zero, List.set_cons_succ]
  refine wpAnyH_take (i := 21) (v := ?_) rfl (by kernel_rfl) (by kernel_rfl) (by kernel_rfl) (fun _ _ _ h => h) (Or.inl ⟨by rfl, ?_⟩) hHeld ?_
  rotate_left
  · intro w hSw
    obtain ⟨s1, s2, s3, s4, s5, s6, s7⟩ := hSw
    go_simp
    with_reducible rfl
  simp only [Act.put, List.getElem_toArray, List.getElem_cons_zero, List.getElem_cons_succ, List.setIfInBounds_toArray, List.set_cons_zero, List.set_cons_succ]
  refine wpAnyH_take (i := 22) (v := ?_) rfl (by kernel_rfl) (by kernel_rfl) (by kernel_rfl) (fun _ _ _ h => h) (Or.inl ⟨by rfl, ?_⟩) hHeld ?_
  rotate_left
  · intro w hSw
    obtain ⟨s1, s2, s3, s4, s5, s6, s7⟩ := hSw
    go_simp
    with_reducible rfl
  simp only [Act.put, List.getElem_toArray, List.getElem_cons_zero, List.getElem_cons_succ, List.setIfInBounds_toArray, List.set_cons_zero, List.set_cons_succ]
  refine wpAnyH_take (i := 24) (v := ?_) rfl (by kernel_rfl) (by kernel_rfl) (by kernel_rfl) (fun _ _ _ h => h) (Or.inl ⟨by rfl, ?_⟩) hHeld ?_
  rotate_left
  · intro w hSw
    obtain ⟨s1, s2, s3, s4, s5, s6, s7⟩ := hSw
    go_simp
    with_reducible rfl
  simp only [Act.put, List.getElem_toArray, List.getElem_cons_zero, List.getElem_cons_succ, List.setIfInBounds_toArray, List.set_cons_zero, List.set_cons_succ]
  refine wpAnyH_take (i := 25) (v := ?_) rfl (by kernel_rfl) (by kernel_rfl) (by kernel_rfl) (fun _ _ _ h => h) (Or.inl ⟨by rfl, ?_⟩) hHeld ?_
  rotate_left
  · intro w hSw
    obtain ⟨s1, s2, s3, s4, s5, s6, s7⟩ := hSw
    go_simp
    with_reducible rfl
  simp only [Act.put, List.getElem_toArray, List.getElem_cons_zero, List.getElem_cons_succ, List.setIfInBounds_toArray, List.set_cons_zero, List.set_cons_succ]
  refine wpAnyH_take (i := 26) (v := ?_) rfl (by kernel_rfl) (by kernel_rfl) (by kernel_rfl) (fun _ _ _ h => h) (Or.inl ⟨by rfl, ?_⟩) hHeld ?_
  rotate_left
  · intro w hSw
    obtain ⟨s1, s2, s3, s4, s5, s6, s7⟩ := hSw
    go_simp
    with_reducible rfl
  simp only [Act.put, List.getElem_toArray, List.getElem_cons_zero, List.getElem_cons_succ, List.setIfInBounds_toArray, List.set_cons_zero, List.set_cons_succ]
  refine wpAnyH_take (i := 27) (v := ?_) rfl (by kernel_rfl) (by kernel_rfl) (by kernel_rfl) (fun _ _ _ h => h) (Or.inl ⟨by rfl, ?_⟩) hHeld ?_
  rotate_left
  · intro w hSw
    obtain ⟨s1, s2, s3, s4, s5, s6, s7⟩ := hSw
    go_simp
    with_reducible rfl
  simp only [Act.put, List.getElem_toArray, List.getElem_cons_zero, List.getElem_cons_succ, List.setIfInBounds_toArray, List.set_cons_zero, List.set_cons_succ]
  refine wpAnyH_take (i := 28) (v := ?_) rfl (by kernel_rfl) (by kernel_rfl) (by kernel_rfl) (fun _ _ _ h => h) (Or.inl ⟨by rfl, ?_⟩) hHeld ?_
  rotate_left
  · intro w hSw
    obtain ⟨s1, s2, s3, s4, s5, s6, s7⟩ := hSw
    go_simp
    with_reducible rfl
  simp only [Act.put, List.getElem_toArray, List.getElem_cons_zero, List.getElem_cons_succ, List.setIfInBounds_toArray, List.set_cons_zero, List.set_cons_succ]
  refine wpAnyH_take (i := 30) (v := ?_) rfl (by kernel_rfl) (by kernel_rfl) (by kernel_rfl) (fun _ _ _ h => h) (Or.inl ⟨by rfl, ?_⟩) hHeld ?_
  rotate_left
  · intro w hSw
    obtain ⟨s1, s2, s3, s4, s5, s6, s7⟩ := hSw
    go_simp
    with_reducible rfl
  simp only [Act.put, List.getElem_toArray, List.getElem_cons_zero, List.getElem_cons_succ, List.setIfInBounds_toArray, List.set_cons_zero, List.set_cons_succ]
  refine wpAnyH_take (i := 31) (v := ?_) rfl (by kernel_rfl) (by kernel_rfl) (by kernel_rfl) (fun _ _ _ h => h) (Or.inl ⟨by rfl, ?_⟩) hHeld ?_
  rotate_left
  · intro w hSw
    obtain ⟨s1, s2, s3, s4, s5, s6, s7⟩ := hSw
    go_simp
    with_reducible rfl
  simp only [Act.put, List.getElem_toArray, List.getElem_cons_zero, List.getElem_cons_succ, List.setIfInBounds_toArray, List.set_cons_zero, List.set_cons_succ]
  refine wpAnyH_take (i := 32) (v := ?_) rfl (by kernel_rfl) (by kernel_rfl) (by kernel_rfl) (fun _ _ _ h => h) (Or.inl ⟨by rfl, ?_⟩) hHeld ?_
  rotate_left
  · intro w hSw
    obtain ⟨s1, s2, s3, s4, s5, s6, s7⟩ := hSw
    go_simp
    with_reducible rfl
  simp only [Act.put, List.getElem_toArray, List.getElem_cons_zero, List.getElem_cons_succ, List.setIfInBounds_toArray, List.set_cons_zero, List.set_cons_succ]
  refine wpAnyH_take (i := 33) (v := ?_) rfl (by kernel_rfl) (by kernel_rfl) (by kernel_rfl) (fun _ _ _ h => h) (Or.inl ⟨by rfl, ?_⟩) hHeld ?_
  rotate_left
  · intro w hSw
    obtain ⟨s1, s2, s3, s4, s5, s6, s7⟩ := hSw
    go_simp
    with_reducible rfl
  simp only [Act.put, List.getElem_toArray, List.getElem_cons_zero, List.getElem_cons_succ, List.setIfInBounds_toArray, List.set_cons_zero, List.set_cons_succ]
  refine wpAnyH_take (i := 34) (v := ?_) rfl (by kernel_rfl) (by kernel_rfl) (by kernel_rfl) (fun _ _ _ h => h) (Or.inl ⟨by rfl, ?_⟩) hHeld ?_
  rotate_left
  · intro w hSw
    obtain ⟨s1, s2, s3, s4, s5, s6, s7⟩ := hSw
    go_simp
    with_reducible rfl
  simp only [Act.put, List.getElem_toArray, List.getElem_cons_zero, List.getElem_cons_succ, List.setIfInBounds_toArray, List.set_cons_zero, List.set_cons_succ]
  refine wpAnyH_take (i := 36) (v := ?_) rfl (by kernel_rfl) (by kernel_rfl) (by kernel_rfl) (fun _ _ _ h => h) (Or.inl ⟨by rfl, ?_⟩) hHeld ?_
  rotate_left
  · intro w hSw
    obtain ⟨s1, s2, s3, s4, s5, s6, s7⟩ := hSw
    go_simp
    with_reducible rfl
  simp only [Act.put, List.getElem_toArray, List.getElem_cons_zero, List.getElem_cons_succ, List.setIfInBounds_toArray, List.set_cons_zero, List.set_cons_succ]
  refine wpAnyH_take (i := 37) (v := ?_) rfl (by kernel_rfl) (by kernel_rfl) (by kernel_rfl) (fun _ _ _ h => h) (Or.inl ⟨by rfl, ?_⟩) hHeld ?_
  rotate_left
  · intro w hSw
    obtain ⟨s1, s2, s3, s4, s5, s6, s7⟩ := hSw
    go_simp
    with_reducible rfl
  simp only [Act.put, List.getElem_toArray, List.getElem_cons_zero, List.getElem_cons_succ, List.setIfInBounds_toArray, List.set_cons_zero, List.set_cons_succ]
  refine wpAnyH_take (i := 38) (v := ?_) rfl (by kernel_rfl) (by kernel_rfl) (by kernel_rfl) (fun _ _ _ h => h) (Or.inl ⟨by rfl, ?_⟩) hHeld ?_
  rotate_left
  · intro w hSw
    obtain ⟨s1, s2, s3, s4, s5, s6, s7⟩ := hSw
    go_simp
    with_reducible rfl
  simp only [Act.put, List.getElem_toArray, List.getElem_cons_zero, List.getElem_cons_succ, List.setIfInBounds_toArray, List.set_cons_zero, List.set_cons_succ]
  refine wpAnyH_take (i := 39) (v := ?_) rfl (by kernel_rfl) (by kernel_rfl) (by kernel_rfl) (fun _ _ _ h => h) (Or.inl ⟨by rfl, ?_⟩) hHeld ?_
  rotate_left
  · intro w hSw
    obtain ⟨s1, s2, s3, s4, s5, s6, s7⟩ := hSw
    go_simp
    with_reducible rfl
  simp only [Act.put, List.getElem_toArray, List.getElem_cons_zero, List.getElem_cons_succ, List.setIfInBounds_toArray, List.set_cons_zero, List.set_cons_succ]
  refine wpAnyH_take (i := 40) (v := ?_) rfl (by kernel_rfl) (by kernel_rfl) (by kernel_rfl) (fun _ _ _ h => h) (Or.inl ⟨by rfl, ?_⟩) hHeld ?_
  rotate_left
  · intro w hSw
    obtain ⟨s1, s2, s3, s4, s5, s6, s7⟩ := hSw
    go_simp
    with_reducible rfl
  simp only [Act.put, List.getElem_toArray, List.getElem_cons_zero, List.getElem_cons_succ, List.setIfInBounds_toArray, List.set_cons_zero, List.set_cons_succ]
  refine wpAnyH_ready (rs := [5]) (by kernel_rfl) (by simp) ?_
  refine AllReadyH.cons rfl (fun K hK => ?_) AllReadyH.nil
  go_simp
  go_at_call 109
  refine (A1.out _ HB.out).mono ?_
  rintro e w1 ⟨rfl, b1⟩
  go_wp2_with fail
  refine hK.out _ _ (CC.out _ (bthen HB.out b1)) (fun hHeld => ?_)
  clear hK K
  replace KR := Lib.hid (Blk.keep KR.out b1)
  replace HB := Lib.hid (bthen HB.out b1)
  clear b1 A1
  refine wpAnyH_ready (rs := [11]) (by kernel_rfl) (by simp) ?_
  refine AllReadyH.cons rfl (fun K hK => ?_) AllReadyH.nil
  go_simp
  go_at_call 110
  refine (A2.out _ HB.out).mono ?_
  rintro e w2 ⟨rfl, b1⟩
  go_wp2_with fail
  refine hK.out _ _ (CC.out _ (bthen HB.out b1)) (fun hHeld => ?_)
  clear hK K
  replace KR := Lib.hid (Blk.keep KR.out b1)
  replace HB := Lib.hid (bthen HB.out b1)
  clear b1 A2
  refine wpAnyH_ready (rs := [17]) (by kernel_rfl) (by simp) ?_
  refine AllReadyH.cons rfl (fun K hK => ?_) AllReadyH.nil
  go_simp
  go_at_call 111
  refine (A3.out _ HB.out).mono ?_
  rintro e w3 ⟨rfl, b1⟩
  go_wp2_with fail
  refine hK.out _ _ (CC.out _ (bthen HB.out b1)) (fun hHeld => ?_)
  clear hK K
  replace KR := Lib.hid (Blk.keep KR.out b1)
  replace HB := Lib.hid (bthen HB.out b1)
  clear b1 A3
  refine wpAnyH_ready (rs := [23]) (by kernel_rfl) (by simp) ?_
  refine AllReadyH.cons rfl (fun K hK => ?_) AllReadyH.nil
  go_simp
  go_at_call 110
  refine (A4.out _ HB.out).mono ?_
  rintro e w4 ⟨rfl, b1⟩
  go_wp2_with fail
  refine hK.out _ _ (CC.out _ (bthen HB.out b1)) (fun hHeld => ?_)
  clear hK K
  replace KR := Lib.hid (Blk.keep KR.out b1)
  replace HB := Lib.hid (bthen HB.out b1)
  clear b1 A4
  refine wpAnyH_ready (rs := [29]) (by kernel_rfl) (by simp) ?_
  refine AllReadyH.cons rfl (fun K hK => ?_) AllReadyH.nil
  go_simp
  go_at_call 110
  refine (A5.out _ HB.out).mono ?_
  rintro e w5 ⟨rfl, b1⟩
  go_wp2_with fail
  refine hK.out _ _ (CC.out _ (bthen HB.out b1)) (fun hHeld => ?_)
  clear hK K
  replace KR := Lib.hid (Blk.keep KR.out b1)
  replace HB := Lib.hid (bthen HB.out b1)
  clear b1 A5
  refine wpAnyH_ready (rs := [35]) (by kernel_rfl) (by simp) ?_
  refine AllReadyH.cons rfl (fun K hK => ?_) AllReadyH.nil
  go_simp
  go_at_call 112
  refine (A6.out _ HB.out).mono ?_
  rintro e w6 ⟨rfl, b1⟩
  go_wp2_with fail
  refine hK.out _ _ (CC.out _ (bthen HB.out b1)) (fun hHeld => ?_)
  clear hK K
  replace KR := Lib.hid (Blk.keep KR.out b1)
  replace HB := Lib.hid (bthen HB.out b1)
  clear b1 A6
  refine wpAnyH_ready (rs := [41]) (by kernel_rfl) (by simp) ?_
  refine AllReadyH.cons rfl (fun K hK => ?_) AllReadyH.nil
  go_simp
  go_at_call 110
  refine (A7.out _ HB.out).mono ?_
  rintro e w7 ⟨rfl, b1⟩
  go_wp2_with fail
  refine hK.out _ _ (CC.out _ (bthen HB.out b1)) (fun hHeld => ?_)
  clear hK K
  replace KR := Lib.hid (Blk.keep KR.out b1)
  replace HB := Lib.hid (bthen HB.out b1)
  clear b1 A7
  refine wpAnyH_take (i := 42) (v := .agg (PL 0 M m B p a c l).toArray) rfl (by kernel_rfl) (by kernel_rfl) (by kernel_rfl) (fun _ _ _ h => h) (Or.inl ⟨by rfl, fun _ _ => by kernel_rfl⟩) hHeld ?_
  simp only [Act.put, List.getElem_toArray, List.getElem_cons_zero, List.getElem_cons_succ, List.setIfInBounds_toArray, List.set_cons_zero, List.set_cons_succ]
  obtain ⟨Xp, hXp⟩ : ∃ Xp, Xp = PL 0 M m B p a c l := ⟨_, rfl⟩
  rw [← hXp] at HSz HSz' HO HL
  rw [← hXp]
  have HXe := Lib.hid hXp
  clear hXp
  have HS5 : Hid (Blk (w7.setCells w.heap.size 0 Xp) w.heap.size 44 Xp.toArray) := Lib.hid (blk_over KR.out HL.out)
  refine wpAnyH_ready (rs := [43]) (by kernel_rfl) (by simp) ?_
  refine AllReadyH.cons rfl (fun K hK => ?_) AllReadyH.nil
  rw [if_pos (by rfl)]
  refine wp_store_mid 44 _ _ rfl w.heap.size 0 Xp.toArray rfl rfl (blk_there KR.out (by rw [List.size_toArray, HL.out]; exact Nat.le_refl 24)) HSz'.out HO.out ?_
  refine hK.out _ _ (CC.out _ (below_setCells _ HB.out (Nat.le_refl _))) (fun hHeld => ?_)
  clear hK K
  refine wpAnyH_done (by kernel_rfl) ?_ _
  clear hHeld
  go_wp2_with fail
  refine fin (fun W => Blk W w.heap.size 44 Xp.toArray ∧ Below w.heap.size w W) ⟨HS5.out, below_setCells _ HB.out (Nat.le_refl _)⟩ ?_
  rintro W ⟨kr, hb⟩
  have hl := run_loadVar_mid W w.heap.size 0 44 Xp _ (blk_whole kr) Tryz.underlying44 rfl HSz.out
  exact bodyPost_ret (v := .agg Xp.toArray) (results_cell Tryz.results79 rfl hl) rfl ⟨by rw [HXe.out], hb⟩

end Go.Proofs.YtcpgkkphibhdfaaGreat
