/-
  The reference's store: what its Sorted of layer 8 answers.
-/
import Derived.Test.YtkondkajpmafkaaGreatMP23
namespace Go.Proofs.YtkondkajpmafkaaGreat
open Go.RowKit

theorem own_base {w : World} {b b' n : Nat} {v : Value} {zs : List Int} (h : OwnD w b v n zs) (hb : b' ≤ b) : OwnD w b' v n zs := by
  refine ⟨h.1, ?_⟩
  rcases h.2 with hn | ⟨g, cap, cur, e, hg, rest⟩
  · exact .inl hn
  · exact .inr ⟨g, cap, cur, e, Nat.le_trans hb hg, rest⟩
/-- an insertion, up to a place -/
def tw (A : List Int) (x : Int) : Nat := (A.takeWhile fun y => decide (y ≤ x)).length
def insK (A : List Int) (x : Int) (k : Nat) : List Int := if tw A x < k then A.take (tw A x) ++ x :: (A.take k).drop (tw A x) else A.take k
theorem tw_le (A : List Int) (x : Int) : tw A x ≤ A.length := by
  unfold tw
  exact (List.takeWhile_sublist _).length_le
theorem tw_take (A : List Int) (x : Int) : A.take (tw A x) = A.takeWhile (fun y => decide (y ≤ x)) := by
  unfold tw
  have h := List.takeWhile_append_dropWhile (p := fun y => decide (y ≤ x)) (l := A)
  conv => lhs; rhs; rw [← h]
  rw [List.take_left]
theorem tw_drop (A : List Int) (x : Int) : A.drop (tw A x) = A.dropWhile (fun y => decide (y ≤ x)) := by
  unfold tw
  have h := List.takeWhile_append_dropWhile (p := fun y => decide (y ≤ x)) (l := A)
  conv => lhs; rhs; rw [← h]
  rw [List.drop_left]
theorem tw_at : ∀ (A : List Int) (x y : Int) (k : Nat), A[k]? = some y → k ≤ tw A x → ((x < y) ↔ k = tw A x)
  | [], _, _, _, h, _ => by simp at h
  | a :: A, x, y, 0, h, _ => by
    simp at h
    subst h
    unfold tw
    rw [List.takeWhile_cons]
    by_cases c : a ≤ x
    · simp [c]
    · simp [c]; omega
  | a :: A, x, y, k + 1, h, hk => by
    have h' : A[k]? = some y := by simpa using h
    unfold tw at hk ⊢
    rw [List.takeWhile_cons] at hk ⊢
    by_cases c : a ≤ x
    · simp [c] at hk ⊢
      exact tw_at A x y k h' hk
    · simp [c] at hk
theorem insK_zero (A : List Int) (x : Int) : insK A x 0 = [] := by unfold insK; rw [if_neg (by omega)]; rfl
theorem insK_pre {A : List Int} {x y : Int} {k : Nat} (h : A[k]? = some y) (hk : k < tw A x) : insK A x (k + 1) = insK A x k ++ [y] := by
  unfold insK
  rw [if_neg (by omega), if_neg (by omega), List.take_add_one, h]
  rfl
theorem insK_hit {A : List Int} {x y : Int} {k : Nat} (h : A[k]? = some y) (hk : k = tw A x) : insK A x (k + 1) = insK A x k ++ [x] ++ [y] := by
  unfold insK
  rw [if_pos (by omega), if_neg (by omega), ← hk, List.take_add_one, h]
  have hl : (A.take k).length = k := by
    have := (List.getElem?_eq_some_iff.1 h).1
    rw [List.length_take]; omega
  rw [List.drop_append, List.drop_of_length_le (by omega), hl]
  simp
theorem insK_post {A : List Int} {x y : Int} {k : Nat} (h : A[k]? = some y) (hk : tw A x < k) : insK A x (k + 1) = insK A x k ++ [y] := by
  unfold insK
  rw [if_pos (by omega), if_pos hk, List.take_add_one, h]
  have hl : (A.take k).length = k := by
    have := (List.getElem?_eq_some_iff.1 h).1
    rw [List.length_take]; omega
  rw [List.drop_append, hl, show tw A x - k = 0 by omega]
  simp
theorem insK_end {A : List Int} {x : Int} (h : tw A x < A.length) : insK A x A.length = insI A x := by
  unfold insK insI
  rw [if_pos h, List.take_length, tw_take, tw_drop]
theorem insK_end2 {A : List Int} {x : Int} (h : ¬ tw A x < A.length) : insK A x A.length ++ [x] = insI A x := by
  have e : tw A x = A.length := by have := tw_le A x; omega
  unfold insK insI
  rw [if_neg h, ← tw_take, ← tw_drop, e, List.take_length, List.drop_length]
theorem insK_len (A : List Int) (x : Int) (k : Nat) : (insK A x k).length ≤ k + 1 := by
  unfold insK
  split
  · rw [List.length_append, List.length_cons, List.length_drop, List.length_take, List.length_take]
    omega
  · rw [List.length_take]; omega
theorem sort_snoc {l : List Int} {k : Nat} {x : Int} (h : l[k]? = some x) : sortI (l.take (k + 1)) = insI (sortI (l.take k)) x := by
  unfold sortI
  rw [List.take_add_one, List.foldl_append, h]
  rfl

set_option maxHeartbeats 8000000 in
set_option maxRecDepth 100000 in
theorem rsorted_any (a : Option Addr) (len cap : Nat) (l : List Int) (w : World) (row : Row w a len l) (hlen : len ≤ 10000) :
    Calls Tryz.prog 77 #[.slice a len cap] w fun e w' => ∃ v, e = .returned v ∧ LRes w w' (sortI l) v ∧ Below w.heap.size w w' := by
  have HRow := Lib.hid row
  have HL := Lib.hid row.1
  obtain ⟨i0, hi0, hz0, hz1, hz2⟩ := info_parts id_info
  have HI := Lib.hid (And.intro hi0 (And.intro hz0 (And.intro hz1 hz2)))
  clear hi0 hz0 hz1 hz2 row
  go_enter Tryz.func77, Tryz.ntmps77
  go_wp2
  go_loopw [3, 4, 5, 6, 7] (fun v3 i _ _ _ wr => ∃ k : Nat, k ≤ len ∧ i = .int .i64 k ∧ OwnD wr w.heap.size v3 k (sortI (l.take k)) ∧ Below w.heap.size w wr) (fun _ i _ _ _ _ => len - (intOf i).toNat)
  case atStart => exact ⟨0, by omega, rfl, OwnD.nil _ _, Below.refl _ _⟩
  case round =>
    obtain ⟨k, hk, rfl, hown, hb⟩ := hrel
    obtain ⟨w0, rfl⟩ : ∃ w0, w0 = wr := ⟨_, rfl⟩
    have HOwn := Lib.hid hown
    have HB := Lib.hid hb
    clear hown hb
    by_cases hlt : k < len
    · obtain ⟨xb, xoff, x, rfl, hx, cx⟩ := row_at HRow.out hlt
      have HSn := Lib.hid (sort_snoc hx)
      have k0 : (0 : Int) ≤ (k : Int) := by omega
      have k1 : (k : Int) < (len : Int) := by omega
      have HCx := Lib.hid (cell_keep cx HB.out)
      obtain ⟨aA, cA, hvA, rowA⟩ := HOwn.out.row
      subst hvA
      obtain ⟨A, hA⟩ : ∃ A, A = sortI (l.take k) := ⟨_, rfl⟩
      rw [← hA] at HSn rowA
      have HRA := Lib.hid rowA
      have HAl := Lib.hid rowA.1
      have hszw := HB.out.size
      clear hx cx hA rowA HOwn
      go_wp2
      go_loopw [5, 6, 7] (fun v5 v6 v7 wq => ∃ q : Nat, q ≤ k ∧ v7 = .int .i64 q ∧ v6 = .bool (decide (tw A x < q)) ∧ OwnD wq w0.heap.size v5 (insK A x q).length (insK A x q) ∧ Below w0.heap.size w0 wq) (fun _ _ v7 _ => k - (intOf v7).toNat)
      case atStart => exact ⟨0, by omega, rfl, rfl, by rw [insK_zero]; exact OwnD.nil _ _, Below.refl _ _⟩
      case round =>
        obtain ⟨q, hq, rfl, rfl, hown, hbq⟩ := hrel
        have HOq := Lib.hid hown
        have HBq := Lib.hid hbq
        have hszq := hbq.size
        clear hown hbq
        have HXa : Hid (∀ u, Below w0.heap.size w0 u → u.cell? ⟨xb, xoff + k, none⟩ = some (.int .i64 x) ∧ xb < u.heap.size) := Lib.hid (fun u hu => ⟨cell_keep HCx.out hu, World.block_lt_of_cell? _ _ (cell_keep HCx.out hu)⟩)
        by_cases hqk : q < k
        · obtain ⟨ab, aoff, y, rfl, hy, cy⟩ := row_at HRA.out hqk
          have HYa : Hid (∀ u, Below w0.heap.size w0 u → u.cell? ⟨ab, aoff + q, none⟩ = some (.int .i64 y) ∧ ab < u.heap.size) := Lib.hid (fun u hu => ⟨cell_keep cy hu, World.block_lt_of_cell? _ _ (cell_keep cy hu)⟩)
          have q0 : (0 : Int) ≤ (q : Int) := by omega
          have q1 : (q : Int) < (k : Int) := by omega
          have hlq := insK_len A x q
          have HBd : Hid (Below w0.heap.size w0 wr.drew) := Lib.hid ⟨HBq.out.os, HBq.out.tape, HBq.out.output, HBq.out.size, HBq.out.block⟩
          have HYY := Lib.hid hy
          obtain ⟨Q, hQ⟩ : ∃ Q, Q = insK A x q := ⟨_, rfl⟩
          rw [← hQ] at HOq hlq
          have HQ := Lib.hid hQ
          obtain ⟨nq, hnq⟩ : ∃ nq, nq = Q.length := ⟨_, rfl⟩
          have HNq := Lib.hid hnq
          rw [← hnq] at HOq hlq
          have hql : tw A x ≤ A.length := tw_le A x
          rw [HAl.out] at hql
          obtain ⟨hcy, hcx⟩ := And.intro (HYa.out wr HBq.out) (HXa.out wr HBq.out)
          have hab := hcy.2
          have hxb := hcx.2
          clear hy hQ hnq cy hcy hcx
          by_cases hdn : tw A x < q
          · have hd : decide (tw A x < q) = true := by simpa using hdn
            rw [hd]
            have HE := Lib.hid (insK_post HYY.out hdn)
            clear hd
            go_upto_region 10 with fail
            refine wp_region_held_drew (S := fun w' => w'.cell? ⟨ab, aoff + q, none⟩ = some (.int .i64 y) ∧ w'.cell? ⟨xb, xoff + k, none⟩ = some (.int .i64 x)) (by kernel_rfl) (⟨(HYa.out _ HBd.out).1, (HXa.out _ HBd.out).1⟩) (fun hHeld => ?_)
            refine tk 0 hHeld ?_
            refine tk 1 hHeld ?_
            refine tk 2 hHeld ?_
            refine tks 3 hHeld ?_
            refine tks 4 hHeld ?_
            refine tks 5 hHeld ?_
            refine tks 6 hHeld ?_
            refine tks 7 hHeld ?_
            refine tks 8 hHeld ?_
            refine tks 9 hHeld ?_
            refine tks 10 hHeld ?_
            refine tks 11 hHeld ?_
            refine tk 12 hHeld ?_
            refine wpAnyH_done (by kernel_rfl) ?_ _
            clear hHeld
            refine fin (fun W => OwnD W w0.heap.size u5 nq Q ∧ Below w0.heap.size w0 W) (W := wr.drew) ⟨HOq.out, HBd.out⟩ ?_
            clear HOq HBq HBd hab hxb hszq
            rintro W1 ⟨ho1, hb1⟩
            obtain ⟨cy1, hab1⟩ := HYa.out W1 hb1
            obtain ⟨cx1, hxb1⟩ := HXa.out W1 hb1
            have HO1 := Lib.hid ho1
            have HB1 := Lib.hid hb1
            have hs1 := hb1.size
            clear ho1 hb1
            go_wp2_with (at_builtin; refine wpList_append_own _ rfl (.tmp 40) (.tmp 45) 53 rfl w0.heap.size 31 i0 (.int .i64 0) 1 8 Tryz.underlying53 HI.out.1 HI.out.2.1 HI.out.2.2.1 HI.out.2.2.2 rfl (by decide) _ _ _ rfl (HO1.out.alloc _) ⟨W1.heap.size, 0, none⟩ 1 1 [.int .i64 y] rfl rfl (cell_one_new _ _ _) (by intro u hu; simp at hu; subst hu; rfl) (by unfold maxLen; omega) (by omega) (by simp; omega) ?_)
            intro v' w2 hown' hgrow _
            have HO2 := Lib.hid hown'
            have HB2 := Lib.hid (grownD_below HO1.out (Nat.le_refl _) HB1.out hs1 hgrow)
            clear hown' hgrow
            go_wp2
            go_roundw
            case rel =>
              refine ⟨q + 1, by omega, by go_num, by simp; omega, ?_, HB2.out⟩
              have el : (insK A x (q + 1)).length = nq + 1 := by rw [HE.out, ← HQ.out, List.length_append, ← HNq.out]; rfl
              rw [el]
              unfold OwnD
              rw [HE.out, ← HQ.out, List.map_append]
              exact HO2.out
            case measure => simp [intOf] <;> omega
          · have hd : decide (tw A x < q) = false := by simpa using hdn
            rw [hd]
            clear hd
            have hyx := tw_at A x y q HYY.out (by omega)
            by_cases hxy : x < y
            · have HE := Lib.hid (insK_hit HYY.out (hyx.1 hxy))
              have htq : tw A x < q + 1 := by have := hyx.1 hxy; omega
              clear hyx
              go_upto_region 10 with fail
              refine wp_region_held_drew (S := fun w' => w'.cell? ⟨ab, aoff + q, none⟩ = some (.int .i64 y) ∧ w'.cell? ⟨xb, xoff + k, none⟩ = some (.int .i64 x)) (by kernel_rfl) (⟨(HYa.out _ HBd.out).1, (HXa.out _ HBd.out).1⟩) (fun hHeld => ?_)
              refine tk 0 hHeld ?_
              refine tk 1 hHeld ?_
              refine tk 2 hHeld ?_
              refine tk 3 hHeld ?_
              refine tk 4 hHeld ?_
              refine tk 5 hHeld ?_
              refine tk 6 hHeld ?_
              refine tk 7 hHeld ?_
              refine tk 8 hHeld ?_
              refine tk 9 hHeld ?_
              refine tk 10 hHeld ?_
              refine tk 11 hHeld ?_
              refine tk 12 hHeld ?_
              refine wpAnyH_done (by kernel_rfl) ?_ _
              clear hHeld
              refine fin (fun W => OwnD W w0.heap.size u5 nq Q ∧ Below w0.heap.size w0 W) (W := wr.drew) ⟨HOq.out, HBd.out⟩ ?_
              clear HOq HBq HBd hab hxb hszq
              rintro W1 ⟨ho1, hb1⟩
              obtain ⟨cy1, hab1⟩ := HYa.out W1 hb1
              obtain ⟨cx1, hxb1⟩ := HXa.out W1 hb1
              have HO1 := Lib.hid ho1
              have HB1 := Lib.hid hb1
              have hs1 := hb1.size
              clear ho1 hb1
              go_wp2_with (at_builtin; refine wpList_append_own _ rfl (.tmp 33) (.tmp 38) 53 rfl w0.heap.size 31 i0 (.int .i64 0) 1 8 Tryz.underlying53 HI.out.1 HI.out.2.1 HI.out.2.2.1 HI.out.2.2.2 rfl (by decide) _ _ _ rfl (HO1.out.alloc _) ⟨W1.heap.size, 0, none⟩ 1 1 [.int .i64 x] rfl rfl (cell_one_new _ _ _) (by intro u hu; simp at hu; subst hu; rfl) (by unfold maxLen; omega) (by omega) (by simp; omega) ?_)
              intro v' w2 hown' hgrow _
              have HO3 := Lib.hid (show OwnD w2 w0.heap.size v' (nq + 1) (Q ++ [x]) by unfold OwnD; rw [List.map_append]; exact hown')
              have HB3 := Lib.hid (grownD_below HO1.out (Nat.le_refl _) HB1.out hs1 hgrow)
              have hs3 := HB3.out.size
              clear hown' hgrow cy1 cx1 hab1 hxb1 HO1 HB1 hs1
              obtain ⟨cy1, hab1⟩ := HYa.out w2 HB3.out
              go_wp2_with (at_builtin; refine wpList_append_own _ rfl (.tmp 40) (.tmp 45) 53 rfl w0.heap.size 31 i0 (.int .i64 0) 1 8 Tryz.underlying53 HI.out.1 HI.out.2.1 HI.out.2.2.1 HI.out.2.2.2 rfl (by decide) _ _ _ rfl (HO3.out.alloc _) ⟨w2.heap.size, 0, none⟩ 1 1 [.int .i64 y] rfl rfl (cell_one_new _ _ _) (by intro u hu; simp at hu; subst hu; rfl) (by unfold maxLen; omega) (by omega) (by simp; omega) ?_)
              intro v'' w3 hown' hgrow _
              have HO2 := Lib.hid hown'
              have HB2 := Lib.hid (grownD_below HO3.out (Nat.le_refl _) HB3.out hs3 hgrow)
              clear hown' hgrow
              go_wp2
              go_roundw
              case rel =>
                refine ⟨q + 1, by omega, by go_num, by simp; omega, ?_, HB2.out⟩
                have el : (insK A x (q + 1)).length = (nq + 1) + 1 := by rw [HE.out, ← HQ.out, List.length_append, List.length_append, ← HNq.out]; rfl
                rw [el]
                unfold OwnD
                rw [HE.out, ← HQ.out, List.map_append (l₁ := Q ++ [x])]
                simpa [List.map_append] using HO2.out
              case measure => simp [intOf] <;> omega
            · have hne : q < tw A x := by
                have h1 : ¬ q = tw A x := fun e => hxy (hyx.2 e)
                omega
              have HE := Lib.hid (insK_pre HYY.out hne)
              clear hyx
              go_upto_region 10 with fail
              refine wp_region_held_drew (S := fun w' => w'.cell? ⟨ab, aoff + q, none⟩ = some (.int .i64 y) ∧ w'.cell? ⟨xb, xoff + k, none⟩ = some (.int .i64 x)) (by kernel_rfl) (⟨(HYa.out _ HBd.out).1, (HXa.out _ HBd.out).1⟩) (fun hHeld => ?_)
              refine tk 0 hHeld ?_
              refine tk 1 hHeld ?_
              refine tk 2 hHeld ?_
              refine tk 3 hHeld ?_
              refine tk 4 hHeld ?_
              refine tk 5 hHeld ?_
              refine tk 6 hHeld ?_
              refine tk 7 hHeld ?_
              refine tk 8 hHeld ?_
              refine tk 9 hHeld ?_
              refine tk 10 hHeld ?_
              refine tk 11 hHeld ?_
              refine tk 12 hHeld ?_
              refine wpAnyH_done (by kernel_rfl) ?_ _
              clear hHeld
              refine fin (fun W => OwnD W w0.heap.size u5 nq Q ∧ Below w0.heap.size w0 W) (W := wr.drew) ⟨HOq.out, HBd.out⟩ ?_
              clear HOq HBq HBd hab hxb hszq
              rintro W1 ⟨ho1, hb1⟩
              obtain ⟨cy1, hab1⟩ := HYa.out W1 hb1
              obtain ⟨cx1, hxb1⟩ := HXa.out W1 hb1
              have HO1 := Lib.hid ho1
              have HB1 := Lib.hid hb1
              have hs1 := hb1.size
              clear ho1 hb1
              go_wp2_with (at_builtin; refine wpList_append_own _ rfl (.tmp 40) (.tmp 45) 53 rfl w0.heap.size 31 i0 (.int .i64 0) 1 8 Tryz.underlying53 HI.out.1 HI.out.2.1 HI.out.2.2.1 HI.out.2.2.2 rfl (by decide) _ _ _ rfl (HO1.out.alloc _) ⟨W1.heap.size, 0, none⟩ 1 1 [.int .i64 y] rfl rfl (cell_one_new _ _ _) (by intro u hu; simp at hu; subst hu; rfl) (by unfold maxLen; omega) (by omega) (by simp; omega) ?_)
              intro v' w2 hown' hgrow _
              have HO2 := Lib.hid hown'
              have HB2 := Lib.hid (grownD_below HO1.out (Nat.le_refl _) HB1.out hs1 hgrow)
              clear hown' hgrow
              go_wp2
              go_roundw
              case rel =>
                refine ⟨q + 1, by omega, by go_num, by simp; omega, ?_, HB2.out⟩
                have el : (insK A x (q + 1)).length = nq + 1 := by rw [HE.out, ← HQ.out, List.length_append, ← HNq.out]; rfl
                rw [el]
                unfold OwnD
                rw [HE.out, ← HQ.out, List.map_append]
                exact HO2.out
              case measure => simp [intOf] <;> omega
        · obtain rfl : q = k := by omega
          have hlq := insK_len A x q
          have k2 : ¬ (q : Int) < (q : Int) := by omega
          obtain ⟨cx1, hxb1⟩ := HXa.out wr HBq.out
          by_cases hdn : tw A x < q
          · have hd : decide (tw A x < q) = true := by simpa using hdn
            have HE := Lib.hid (insK_end (A := A) (x := x) (by rw [HAl.out]; exact hdn))
            rw [HAl.out] at HE
            rw [hd]
            clear hd
            go_wp2
            go_roundw
            case rel =>
              refine ⟨q + 1, by omega, by go_num, ?_, bthen HB.out HBq.out⟩
              rw [HSn.out, ← HE.out]
              have el : (insK A x q).length = q + 1 := by rw [HE.out]; have := (ins_perm A x).length_eq; rw [this, List.length_cons, HAl.out]
              rw [← el]
              exact own_base HOq.out hszw
            case measure => simp [intOf] <;> omega
          · have hd : decide (tw A x < q) = false := by simpa using hdn
            have HE := Lib.hid (insK_end2 (A := A) (x := x) (by rw [HAl.out]; exact hdn))
            rw [HAl.out] at HE
            rw [hd]
            clear hd
            obtain ⟨Q, hQ⟩ : ∃ Q, Q = insK A x q := ⟨_, rfl⟩
            rw [← hQ] at HOq hlq HE
            clear hQ
            obtain ⟨nq, hnq⟩ : ∃ nq, nq = Q.length := ⟨_, rfl⟩
            have HNq := Lib.hid hnq
            rw [← hnq] at HOq hlq
            clear hnq
            go_wp2_with (at_builtin; refine wpList_append_own _ rfl (.tmp 49) (.tmp 54) 53 rfl w0.heap.size 31 i0 (.int .i64 0) 1 8 Tryz.underlying53 HI.out.1 HI.out.2.1 HI.out.2.2.1 HI.out.2.2.2 rfl (by decide) _ _ _ rfl (HOq.out.alloc _) ⟨wr.heap.size, 0, none⟩ 1 1 [.int .i64 x] rfl rfl (cell_one_new _ _ _) (by intro u hu; simp at hu; subst hu; rfl) (by unfold maxLen; omega) (by omega) (by simp; omega) ?_)
            intro v' w2 hown' hgrow _
            have HO3 := Lib.hid (show OwnD w2 w0.heap.size v' (nq + 1) (Q ++ [x]) by unfold OwnD; rw [List.map_append]; exact hown')
            have HB3 := Lib.hid (grownD_below HOq.out (Nat.le_refl _) HBq.out hszq hgrow)
            clear hown' hgrow cx1 hxb1
            go_wp2
            go_roundw
            case rel =>
              refine ⟨q + 1, by omega, by go_num, ?_, bthen HB.out HB3.out⟩
              rw [HSn.out, ← HE.out]
              have el : nq + 1 = q + 1 := by
                have h1 : (Q ++ [x]).length = q + 1 := by rw [HE.out]; have := (ins_perm A x).length_eq; rw [this, List.length_cons, HAl.out]
                rw [List.length_append, ← HNq.out] at h1
                exact h1
              rw [← el]
              exact own_base HO3.out hszw
            case measure => simp [intOf] <;> omega
    · obtain rfl : k = len := by omega
      rw [List.take_of_length_le (by rw [HL.out]; exact Nat.le_refl _)] at HOwn
      have k2 : ¬ (k : Int) < (k : Int) := by omega
      go_wp2
      go_ret
      exact ⟨_, rfl, LRes.own HOwn.out, HB.out⟩

end Go.Proofs.YtkondkajpmafkaaGreat
