/-
  Parts as tuples; what the reference's With of layer 6 answers.
-/
import Derived.Test.YtkondkajpmafkaaGreatMP05
namespace Go.Proofs.YtkondkajpmafkaaGreat
open Go.RowKit

abbrev PT := Int × (Nat → Int) × Int × (Nat → Int) × Int × Int × Bool × Int
def pl (P : PT) : List Value := PL P.1 P.2.1 P.2.2.1 P.2.2.2.1 P.2.2.2.2.1 P.2.2.2.2.2.1 P.2.2.2.2.2.2.1 P.2.2.2.2.2.2.2
def zT : PT := (0, zI, 0, zI, 0, 0, false, 0)
def rightT (P : PT) : Bool := rightP P.1 P.2.1 P.2.2.1 P.2.2.2.1 P.2.2.2.2.1 P.2.2.2.2.2.1 P.2.2.2.2.2.2.1 P.2.2.2.2.2.2.2
def layT (k : Int) (P Q : PT) : PT :=
  if k = 0 then (P.1, Q.2.1, P.2.2) else if k = 1 then (P.1, P.2.1, Q.2.2.1, Q.2.2.2.1, P.2.2.2.2) else if k = 2 then (P.1, P.2.1, P.2.2.1, P.2.2.2.1, Q.2.2.2.2.1, Q.2.2.2.2.2.1, Q.2.2.2.2.2.2.1, P.2.2.2.2.2.2.2) else if k = 3 then (P.1, P.2.1, P.2.2.1, P.2.2.2.1, P.2.2.2.2.1, P.2.2.2.2.2.1, P.2.2.2.2.2.2.1, Q.2.2.2.2.2.2.2) else P
theorem layT_pl (k : Int) (P Q : PT) : layP k (pl P) (pl Q) = pl (layT k P Q) := by
  by_cases h0 : k = 0
  · subst h0; rfl
  · by_cases h1 : k = 1
    · subst h1; rfl
    · by_cases h2 : k = 2
      · subst h2; rfl
      · by_cases h3 : k = 3
        · subst h3; rfl
        · unfold layP layT
          rw [if_neg h0, if_neg h1, if_neg h2, if_neg h3, if_neg h0, if_neg h1, if_neg h2, if_neg h3]
theorem layT_has (k : Int) (P Q : PT) : (layT k P Q).1 = P.1 := by
  unfold layT
  by_cases h0 : k = 0
  · rw [if_pos h0]
  · rw [if_neg h0]
    by_cases h1 : k = 1
    · rw [if_pos h1]
    · rw [if_neg h1]
      by_cases h2 : k = 2
      · rw [if_pos h2]
      · rw [if_neg h2]
        by_cases h3 : k = 3
        · rw [if_pos h3]
        · rw [if_neg h3]
theorem rlayT (k : Int) (P Q : PT) (w : World) : Calls Tryz.prog 109 #[.agg (pl P).toArray, .agg (pl Q).toArray, .int .i64 k] w fun e w' => e = .returned (.agg (pl (layT k P Q)).toArray) ∧ Below w.heap.size w w' := by
  rw [← layT_pl]
  exact rlay_any k _ _ _ _ _ _ _ _ _ _ _ _ _ _ _ _ w
theorem pl_len (P : PT) : (pl P).length = 24 := rfl
theorem pl_size (P : PT) : (Tryz.prog.info? 43).map (·.size) = some (pl P).length := size_parts _ _ _ _ _ _ _ _
theorem pl_size' (P : PT) : (Tryz.prog.info? 43).map (·.size) = some (pl P).toArray.size := size_parts _ _ _ _ _ _ _ _
theorem pl_one (P : PT) : (pl P).toArray.all (·.oneCell') = true := PL_one _ _ _ _ _ _ _ _
theorem pl_set (P : PT) (s : Int) : (pl P).set 0 (.int .i64 s) = pl (s, P.2) := rfl
theorem rrightT {P : PT} {b : Bool} (h : rightT P = b) (w : World) : Calls Tryz.prog 108 #[.agg (pl P).toArray] w fun e w' => e = .returned (.bool b) ∧ Below w.heap.size w w' := rpright_b h w

/-- parts with one kind more of others -/
def stepW (Q P : PT) (k : Int) : PT := (addK P.1 k, (layT k P Q).2)
def hasAll (s : Int) (ks : List Int) : Bool := ks.all (hasB s)
def withT (P Q : PT) (ks : List Int) : PT := ks.foldl (stepW Q) P
def withOk (P Q : PT) (ks : List Int) : Bool := rightT P && rightT Q && hasAll Q.1 ks
def withE (P Q : PT) (ks : List Int) : Int := if withOk P Q ks then 0 else 1
def withV (P Q : PT) (ks : List Int) : PT := if withOk P Q ks then withT P Q ks else zT
theorem with_no {P Q : PT} {ks : List Int} (h : withOk P Q ks = false) : withE P Q ks = 1 ∧ withV P Q ks = zT := by unfold withE withV; rw [h]; exact ⟨rfl, rfl⟩
theorem with_yes {P Q : PT} {ks : List Int} (h : withOk P Q ks = true) : withE P Q ks = 0 ∧ withV P Q ks = withT P Q ks := by unfold withE withV; rw [if_pos h, if_pos h]; exact ⟨rfl, rfl⟩
theorem with_succ {P Q : PT} {ks : List Int} {j : Nat} {k : Int} (h : ks[j]? = some k) : withT P Q (ks.take (j + 1)) = stepW Q (withT P Q (ks.take j)) k := by
  unfold withT
  rw [List.take_add_one, h, List.foldl_append]
  rfl
theorem hasAll_succ {s : Int} {ks : List Int} {j : Nat} {k : Int} (h : ks[j]? = some k) (hr : hasAll s (ks.take j) = true) (hk : hasB s k = true) : hasAll s (ks.take (j + 1)) = true := by
  unfold hasAll at hr ⊢
  rw [List.take_add_one, List.all_append, hr, h]
  simpa using hk
theorem hasAll_bad {s : Int} {ks : List Int} {j : Nat} {k : Int} (h : ks[j]? = some k) (hk : hasB s k = false) : hasAll s ks = false := by
  unfold hasAll
  rw [List.all_eq_false]
  exact ⟨k, List.mem_of_getElem? h, by simpa using hk⟩
theorem has_kOk {s k : Int} (h : hasB s k = true) : kOk k = true := by
  unfold hasB at h
  unfold kOk
  rw [Bool.and_eq_true] at h
  exact h.1
theorem shv {k s : Int} (hk : kOk k = true) (h0 : 0 ≤ s) (h1 : s ≤ 31) : IntKind.i64.wrap (s + IntKind.i64.wrap (2 ^ min (IntKind.u64.wrap k).toNat 64)) = s + 2 ^ k.toNat := by
  have e : ∀ x : Int, 0 ≤ x → x ≤ 100 → IntKind.i64.wrap x = x := fun x a b => IntWalk.i64_in _ (by omega)
  rcases kOk_cases hk with rfl | rfl | rfl | rfl | rfl
  · rw [show IntKind.i64.wrap (2 ^ min (IntKind.u64.wrap 0).toNat 64) = 1 by decide]
    exact e (s + 1) (by omega) (by omega)
  · rw [show IntKind.i64.wrap (2 ^ min (IntKind.u64.wrap 1).toNat 64) = 2 by decide]
    exact e (s + 2) (by omega) (by omega)
  · rw [show IntKind.i64.wrap (2 ^ min (IntKind.u64.wrap 2).toNat 64) = 4 by decide]
    exact e (s + 4) (by omega) (by omega)
  · rw [show IntKind.i64.wrap (2 ^ min (IntKind.u64.wrap 3).toNat 64) = 8 by decide]
    exact e (s + 8) (by omega) (by omega)
  · rw [show IntKind.i64.wrap (2 ^ min (IntKind.u64.wrap 4).toNat 64) = 16 by decide]
    exact e (s + 16) (by omega) (by omega)
theorem right_bound {P : PT} (h : rightT P = true) : 0 ≤ P.1 ∧ P.1 ≤ 31 := by
  unfold rightT rightP at h
  simp only [Bool.and_eq_true, decide_eq_true_eq] at h
  exact h.1.1

set_option maxHeartbeats 2000000 in
set_option maxRecDepth 100000 in
theorem rwith_no (P Q : PT) (a : Option Addr) (len cap : Nat) (x y : Bool) (w : World) (h : rightT P = x) (h' : rightT Q = y) (hxy : (x = false ∧ y = false) ∨ (x = false ∧ y = true) ∨ (x = true ∧ y = false)) :
    Calls Tryz.prog 69 #[.agg (pl P).toArray, .agg (pl Q).toArray, .slice a len cap] w fun e w' => e = .returned (.tuple #[.agg (pl zT).toArray, .int .i64 1]) ∧ Below w.heap.size w w' := by
  have H1 := Lib.hid (fun w' => rrightT h w')
  have H2 := Lib.hid (fun w' => rrightT h' w')
  have HSP := Lib.hid (pl_size P)
  have HSQ := Lib.hid (pl_size Q)
  have HSZ := Lib.hid (pl_size' zT)
  have HOZ := Lib.hid (pl_one zT)
  have HLZ := Lib.hid (pl_len zT)
  clear h h'
  obtain ⟨X, hX⟩ : ∃ X, X = pl P := ⟨_, rfl⟩
  obtain ⟨Y, hY⟩ : ∃ Y, Y = pl Q := ⟨_, rfl⟩
  rw [← hX] at H1 HSP
  rw [← hY] at H2 HSQ
  rw [← hX, ← hY]
  clear hX hY
  have KP := Lib.hid (((Blk.new w 43 X.toArray).alloc (.cells Y.toArray 43)).alloc (.cells (pl zT).toArray 43))
  rcases hxy with ⟨rfl, rfl⟩ | ⟨rfl, rfl⟩ | ⟨rfl, rfl⟩
  all_goals
    go_enter Tryz.func69, Tryz.ntmps69
    go_wp2_with (refine wpList_load_mid rfl 43 (.tmp 3) rfl w.heap.size 0 rfl X _ (blk_whole KP.out) Tryz.underlying43 rfl HSP.out ?_)
    go_wp2_with fail
    refine (H1.out _).mono ?_
    rintro e w1 ⟨rfl, b1⟩
    have KQ := Lib.hid (blkAt (((Blk.new (w.alloc (.cells X.toArray 43)) 43 Y.toArray).alloc (.cells (pl zT).toArray 43)).keep b1) (g' := w.heap.size + 1) (by simp))
    have KR := Lib.hid (blkAt ((Blk.new ((w.alloc (.cells X.toArray 43)).alloc (.cells Y.toArray 43)) 43 (pl zT).toArray).keep b1) (g' := w.heap.size + 1 + 1) (by simp))
    have HB := Lib.hid (bthen (balloc (balloc (alloc_below _ _) _) _) b1)
    clear b1
    go_wp2_with (refine wpList_load_mid rfl 43 (.tmp 4) rfl (w.heap.size + 1) 0 rfl Y _ (blk_whole KQ.out) Tryz.underlying43 rfl HSQ.out ?_)
    go_wp2_with fail
    refine (H2.out _).mono ?_
    rintro e w2 ⟨rfl, b2⟩
    replace KR := Lib.hid (Blk.keep KR.out b2)
    replace HB := Lib.hid (bthen HB.out b2)
    clear b2 KQ
    go_wp2_with (refine wpList_store_mid rfl 43 (.tmp 6) (.tmp 23) rfl (w.heap.size + 1 + 1) 0 (pl zT).toArray rfl rfl (blk_there KR.out (by simp [HLZ.out])) HSZ.out HOZ.out ?_)
    have KW := Lib.hid (splice_all (X := pl zT) (Z := pl zT) rfl ▸ blk_setCells (pl zT) KR.out (by omega))
    refine fin (fun W => Blk W (w.heap.size + 1 + 1) 43 (pl zT).toArray ∧ Below w.heap.size w W) ⟨KW.out, below_setCells _ HB.out (by omega)⟩ ?_
    rintro W ⟨kr, hb⟩
    have hl := run_loadVar_mid W (w.heap.size + 1 + 1) 0 43 (pl zT) _ (blk_whole kr) Tryz.underlying43 rfl (pl_size zT)
    exact bodyPost_ret (v := .tuple #[.agg (pl zT).toArray, .int .i64 1]) (results_cell2 Tryz.results69 rfl rfl hl) rfl ⟨rfl, hb⟩


set_option maxHeartbeats 8000000 in
set_option maxRecDepth 100000 in
theorem rwith_yes (P Q : PT) (a : Option Addr) (len cap : Nat) (ks : List Int) (w : World) (h : rightT P = true) (h' : rightT Q = true) (row : Row w a len ks) :
    Calls Tryz.prog 69 #[.agg (pl P).toArray, .agg (pl Q).toArray, .slice a len cap] w fun e w' => e = .returned (.tuple #[.agg (pl (withV P Q ks)).toArray, .int .i64 (withE P Q ks)]) ∧ Below w.heap.size w w' := by
  have HL := Lib.hid row.1
  have hbig := row.2.1
  have HRow := Lib.hid row
  have HO := Lib.hid (And.intro h h')
  have HSZ := Lib.hid (pl_size' zT)
  have HOZ := Lib.hid (pl_one zT)
  have HLZ := Lib.hid (pl_len zT)
  have hbd := right_bound h
  clear row h h'
  have KP := Lib.hid (((Blk.new w 43 (pl P).toArray).alloc (.cells (pl Q).toArray 43)).alloc (.cells (pl zT).toArray 43))
  go_enter Tryz.func69, Tryz.ntmps69
  go_wp2_with (refine wpList_load_mid rfl 43 (.tmp 3) rfl w.heap.size 0 rfl (pl P) _ (blk_whole KP.out) Tryz.underlying43 rfl (pl_size P) ?_)
  go_wp2_with fail
  refine (rrightT HO.out.1 _).mono ?_
  rintro e w1 ⟨rfl, b1⟩
  replace KP := Lib.hid (Blk.keep KP.out b1)
  have KQ := Lib.hid (blkAt (((Blk.new (w.alloc (.cells (pl P).toArray 43)) 43 (pl Q).toArray).alloc (.cells (pl zT).toArray 43)).keep b1) (g' := w.heap.size + 1) (by simp))
  have KR := Lib.hid (blkAt ((Blk.new ((w.alloc (.cells (pl P).toArray 43)).alloc (.cells (pl Q).toArray 43)) 43 (pl zT).toArray).keep b1) (g' := w.heap.size + 1 + 1) (by simp))
  have HB := Lib.hid (bthen (balloc (balloc (alloc_below _ _) _) _) b1)
  clear b1
  go_wp2_with (refine wpList_load_mid rfl 43 (.tmp 4) rfl (w.heap.size + 1) 0 rfl (pl Q) _ (blk_whole KQ.out) Tryz.underlying43 rfl (pl_size Q) ?_)
  go_wp2_with fail
  refine (rrightT HO.out.2 _).mono ?_
  rintro e w2 ⟨rfl, b2⟩
  replace KP := Lib.hid (Blk.keep KP.out b2)
  replace KQ := Lib.hid (Blk.keep KQ.out b2)
  replace KR := Lib.hid (Blk.keep KR.out b2)
  replace HB := Lib.hid (bthen HB.out b2)
  clear b2
  go_wp2
  go_loopw [10] (fun i wr => ∃ j : Nat, ∃ P' : PT, j ≤ len ∧ i = .int .i64 j ∧ P' = withT P Q (ks.take j) ∧ hasAll Q.1 (ks.take j) = true ∧ (0 ≤ P'.1 ∧ P'.1 ≤ 31) ∧ Blk wr w.heap.size 43 (pl P').toArray ∧ Blk wr (w.heap.size + 1) 43 (pl Q).toArray ∧ Blk wr (w.heap.size + 1 + 1) 43 (pl zT).toArray ∧ Below w.heap.size w wr) (fun i _ => len - (intOf i).toNat)
  case atStart => exact ⟨0, P, by omega, rfl, rfl, rfl, hbd, KP.out, KQ.out, KR.out, HB.out⟩
  case round =>
    clear KP KQ KR HB hbd
    obtain ⟨j, P', hj, rfl, hP, hz, hbd, hp, hq, hr, hb⟩ := hrel
    have HP := Lib.hid hP
    have HZ := Lib.hid hz
    have KP := Lib.hid hp
    have KQ := Lib.hid hq
    have KR := Lib.hid hr
    have HB := Lib.hid hb
    clear hP hz hp hq hr hb
    by_cases hlt : j < len
    · obtain ⟨b, off, k, rfl, hv, c0⟩ := row_at6 (row_keep HRow.out HB.out) hlt
      have HV := Lib.hid hv
      clear hv
      have hj0 : (0 : Int) ≤ (j : Int) := by omega
      have hj1 : (j : Int) < (len : Int) := by omega
      have hq0 : wr.cell? ⟨w.heap.size + 1, 0, none⟩ = some (.int .i64 Q.1) := KQ.out.cell 0
      by_cases hh : hasB Q.1 k = true
      · have HH := Lib.hid hh
        clear hh
        go_wp2
        go_region_held3 (fun w' => w'.cell? ⟨w.heap.size + 1, 0, none⟩ = some (.int .i64 Q.1) ∧ w'.cell? ⟨b, off + j, none⟩ = some (.int .i64 k)) (first | exact ⟨hq0, c0⟩ | go_keep)
          (first | (go_at_call 81; refine (rhas_b HH.out _).mono ?_; rintro e w3 ⟨rfl, rfl⟩))
        go_wp2
        have hu := Tryz.underlying43
        have hsQ := pl_size Q
        have hbw : b < w.heap.size := by
          obtain ⟨_, _, _, e, _, cc⟩ := row_at6 HRow.out hlt
          have zz := cell_lt cc
          simp at e
          rw [e.1]
          exact zz
        refine wp_region_held_drew (S := fun w' => w'.rangeAt (w.heap.size + 1) 0 (pl Q) ∧ w'.cell? ⟨b, off + j, none⟩ = some (.int .i64 k)) (by kernel_rfl) (⟨blk_whole (Blk.drew (Blk.drew KQ.out)), c0⟩) (fun hHeld => ?_)
        refine tkl 1 rfl (yieldsIf_load_mid (by rfl) _ _ rfl _ _ rfl _ _ (fun _ h => h.1) hu rfl hsQ) hHeld ?_
        refine tk 2 hHeld ?_
        refine tk 3 hHeld ?_
        refine tk 4 hHeld ?_
        refine wpAnyH_take (i := 5) (v := ?_) rfl (by kernel_rfl) (by kernel_rfl) (by kernel_rfl) (fun _ _ _ h => h) (Or.inl ⟨by rfl, ?_⟩) hHeld ?_
        rotate_left
        · rintro w ⟨s0, s1⟩
          go_simp
          with_reducible rfl
        simp only [Act.put, List.getElem_toArray, List.getElem_cons_zero, List.getElem_cons_succ, List.setIfInBounds_toArray, List.set_cons_zero, List.set_cons_succ]
        refine rd 0 (fun K hK => ?_)
        rw [if_pos (by rfl)]
        refine wp_load_mid 43 _ rfl w.heap.size 0 rfl (pl P') _ (blk_whole (Blk.drew (Blk.drew KP.out))) hu rfl (pl_size P') ?_
        simp only [Act.put, List.getElem_toArray, List.getElem_cons_zero, List.setIfInBounds_toArray, List.set_cons_zero, List.set_cons_succ]
        refine hK.out _ _ hHeld (fun hHeld => ?_)
        clear hK K
        refine rd 6 (fun K hK => ?_)
        go_simp
        go_at_call 109
        refine (rlayT k P' Q _).mono ?_
        rintro e w4 ⟨rfl, b4⟩
        go_wp2_with fail
        refine hK.out _ _ (⟨blk_whole (Blk.keep KQ.out (bdrew (bdrew b4))), cell_keep c0 (bdrew (bdrew b4))⟩) (fun hHeld => ?_)
        clear hK K
        have B4 := Lib.hid (bdrew (bdrew b4))
        clear b4
        replace KP := Lib.hid (Blk.keep KP.out B4.out)
        replace KQ := Lib.hid (Blk.keep KQ.out B4.out)
        replace KR := Lib.hid (Blk.keep KR.out B4.out)
        replace HB := Lib.hid (bthen HB.out B4.out)
        have c4 := cell_keep c0 B4.out
        clear B4 c0 hq0
        have HS5 := Lib.hid (splice_all (X := pl (layT k P' Q)) (Z := pl P') rfl ▸ blk_setCells (pl (layT k P' Q)) KP.out (by simp [pl_len]))
        have c5 : (w4.setCells w.heap.size 0 (pl (layT k P' Q))).cell? ⟨b, off + j, none⟩ = some (.int .i64 k) := by rw [World.cell?_setCells_out _ _ _ _ _ (fun e => absurd e (by simp; omega))]; exact c4
        refine rd 7 (fun K hK => ?_)
        rw [if_pos (by rfl)]
        refine wp_store_mid 43 _ _ rfl w.heap.size 0 (pl (layT k P' Q)).toArray rfl rfl (blk_there KP.out (by simp [pl_len])) (pl_size' _) (pl_one _) ?_
        refine hK.out _ _ ⟨blk_whole (blk_setFar _ KQ.out (by omega)), c5⟩ (fun hHeld => ?_)
        clear hK K
        refine wpAnyH_done (by kernel_rfl) ?_ _
        clear hHeld
        refine fin (fun W => Blk W w.heap.size 43 (pl (layT k P' Q)).toArray ∧ Blk W (w.heap.size + 1) 43 (pl Q).toArray ∧ Blk W (w.heap.size + 1 + 1) 43 (pl zT).toArray ∧ Below w.heap.size w W ∧ W.cell? ⟨b, off + j, none⟩ = some (.int .i64 k)) ⟨HS5.out, blk_setFar _ KQ.out (by omega), blk_setFar _ KR.out (by omega), below_setCells _ HB.out (Nat.le_refl _), c5⟩ ?_
        clear KP KQ KR HB c4 c5 HS5 hu hsQ
        rintro W ⟨kp, kq, kr, hb, cw⟩
        have KP := Lib.hid kp
        have KQ := Lib.hid kq
        have KR := Lib.hid kr
        have HB := Lib.hid hb
        clear kp kq kr hb
        have cp : W.cell? ⟨w.heap.size, 0, none⟩ = some (.int .i64 P'.1) := by have := KP.out.cell 0; rw [this, ← layT_has k P' Q]; rfl
        have HN := Lib.hid (hasAll_succ HV.out HZ.out HH.out)
        have HW1 : Hid (withT P Q (ks.take (j + 1)) = (addK P'.1 k, (layT k P' Q).2)) := Lib.hid (by rw [with_succ HV.out, ← HP.out]; rfl)
        have HBd := Lib.hid (addK_bound hbd (has_kOk HH.out))
        cases hb2 : hasB P'.1 k with
        | true =>
          have H2 := Lib.hid hb2
          clear hb2
          go_wp2
          go_region_held3 (fun w' => w'.cell? ⟨w.heap.size, 0, none⟩ = some (.int .i64 P'.1) ∧ w'.cell? ⟨b, off + j, none⟩ = some (.int .i64 k)) (first | exact ⟨cp, cw⟩ | go_keep)
            (first | (go_at_call 81; refine (rhas_b H2.out _).mono ?_; rintro e w6 ⟨rfl, rfl⟩))
          go_wp2
          go_roundw
          case rel =>
            have ea : addK P'.1 k = P'.1 := by unfold addK; rw [if_pos H2.out]
            have ep : layT k P' Q = withT P Q (ks.take (j + 1)) := by rw [HW1.out, ea, ← layT_has k P' Q]
            exact ⟨j + 1, layT k P' Q, by omega, by go_num, ep, HN.out, by rw [layT_has]; exact hbd, KP.out.drew, KQ.out.drew, KR.out.drew, bdrewn HB.out⟩
          case measure => simp [intOf] <;> omega
        | false =>
          have H2 := Lib.hid hb2
          clear hb2
          go_wp2
          go_region_held3 (fun w' => w'.cell? ⟨w.heap.size, 0, none⟩ = some (.int .i64 P'.1) ∧ w'.cell? ⟨b, off + j, none⟩ = some (.int .i64 k)) (first | exact ⟨cp, cw⟩ | go_keep)
            (first | (go_at_call 81; refine (rhas_b H2.out _).mono ?_; rintro e w6 ⟨rfl, rfl⟩))
          have ea : addK P'.1 k = P'.1 + 2 ^ k.toNat := by unfold addK; rw [if_neg (by rw [H2.out]; simp)]
          rw [ea] at HW1 HBd
          clear ea
          have fp := KP.out.frozen 0
          have cw2 : ∀ v, (W.setCell ⟨w.heap.size, 0, none⟩ v).cell? ⟨b, off + j, none⟩ = some (.int .i64 k) := fun v => by rw [World.cell?_setCell_far _ _ _ _ (by simp; omega)]; exact cw
          have KPs : Hid (∀ v, Blk (W.setCell ⟨w.heap.size, 0, none⟩ (.int .i64 v)) w.heap.size 43 (pl (v, (layT k P' Q).2)).toArray) := Lib.hid (fun v => by have := KP.out.set_ 0 (.int .i64 v); simpa [pl_set] using this)
          have hs0 : 0 ≤ P'.1 := hbd.1
          have hs1 : P'.1 ≤ 31 := hbd.2
          rcases kOk_cases (has_kOk HH.out) with rfl | rfl | rfl | rfl | rfl
          all_goals
            go_wp2
            refine wp_region_held_drew (S := fun w' => w'.cell? ⟨b, off + j, none⟩ = some (.int .i64 _)) (by kernel_rfl) (cw) (fun hHeld => ?_)
            refine tk 0 hHeld ?_
            refine tk 2 hHeld ?_
            refine tk 3 hHeld ?_
            refine tk 4 hHeld ?_
            refine tk 5 hHeld ?_
            refine tk 6 hHeld ?_
            refine tk 7 hHeld ?_
            refine rd 1 (fun K hK => ?_)
            go_simp
            refine hK.out _ _ (cw) (fun hHeld => ?_)
            clear hK K
            refine tk 8 hHeld ?_
            refine tk 9 hHeld ?_
            refine rd 10 (fun K hK => ?_)
            go_simp
            refine hK.out _ _ (cw2 _) (fun hHeld => ?_)
            clear hK K
            refine wpAnyH_done (by kernel_rfl) ?_ _
            clear hHeld
            rw [shv (has_kOk HH.out) hs0 hs1]
            go_wp2
            go_roundw
            case rel => exact ⟨j + 1, _, by omega, by go_num, HW1.out.symm, HN.out, HBd.out, Blk.drew (Blk.drew (KPs.out _)), Blk.drew (Blk.drew (KQ.out.far (p := ⟨w.heap.size, 0, none⟩) (by simp) _)), Blk.drew (Blk.drew (KR.out.far (p := ⟨w.heap.size, 0, none⟩) (by simp; omega) _)), bdrewn (bdrewn (HB.out.setCell (p := ⟨w.heap.size, 0, none⟩) (Nat.le_refl _) _))⟩
            case measure => simp [intOf] <;> omega
      · have hh' : hasB Q.1 k = false := by simpa using hh
        have HH := Lib.hid hh'
        have hno := with_no (P := P) (Q := Q) (ks := ks) (by unfold withOk; rw [hasAll_bad HV.out hh']; simp)
        have HNo := Lib.hid hno
        clear hh hh' hno
        go_wp2
        go_region_held3 (fun w' => w'.cell? ⟨w.heap.size + 1, 0, none⟩ = some (.int .i64 Q.1) ∧ w'.cell? ⟨b, off + j, none⟩ = some (.int .i64 k)) (first | exact ⟨hq0, c0⟩ | go_keep)
          (first | (go_at_call 81; refine (rhas_b HH.out _).mono ?_; rintro e w3 ⟨rfl, rfl⟩))
        have KR2 := Lib.hid (Blk.drew KR.out)
        go_wp2_with (refine wpList_store_mid rfl 43 (.tmp 6) (.tmp 39) rfl (w.heap.size + 1 + 1) 0 (pl zT).toArray rfl rfl (blk_there KR2.out (by simp [HLZ.out])) HSZ.out HOZ.out ?_)
        have KW := Lib.hid (splice_all (X := pl zT) (Z := pl zT) rfl ▸ blk_setCells (pl zT) KR2.out (by omega))
        refine fin (fun W => Blk W (w.heap.size + 1 + 1) 43 (pl zT).toArray ∧ Below w.heap.size w W) ⟨KW.out, below_setCells _ (bdrewn HB.out) (by omega)⟩ ?_
        rintro W ⟨kr, hb⟩
        have hl := run_loadVar_mid W (w.heap.size + 1 + 1) 0 43 (pl zT) _ (blk_whole kr) Tryz.underlying43 rfl (pl_size zT)
        exact bodyPost_ret (v := .tuple #[.agg (pl zT).toArray, .int .i64 1]) (results_cell2 Tryz.results69 rfl rfl hl) rfl ⟨by rw [HNo.out.1, HNo.out.2], hb⟩
    · obtain rfl : j = len := by omega
      have et : ks.take j = ks := List.take_of_length_le (by rw [HL.out]; exact Nat.le_refl _)
      rw [et] at HP HZ
      have hyes := with_yes (P := P) (Q := Q) (ks := ks) (by unfold withOk; rw [HO.out.1, HO.out.2, HZ.out]; rfl)
      have HYes := Lib.hid hyes
      clear et hyes
      go_wp2_with (first | refine wpList_load_mid rfl 43 (.tmp 3) rfl w.heap.size 0 rfl (pl P') _ (blk_whole KP.out) Tryz.underlying43 rfl (pl_size P') ?_ | refine wpList_store_mid rfl 43 (.tmp 6) (.tmp 66) rfl (w.heap.size + 1 + 1) 0 (pl P').toArray rfl rfl (blk_there KR.out (by simp [pl_len])) (pl_size' P') (pl_one P') ?_)
      have KW := Lib.hid (splice_all (X := pl P') (Z := pl zT) rfl ▸ blk_setCells (pl P') KR.out (by simp [pl_len]))
      refine fin (fun W => Blk W (w.heap.size + 1 + 1) 43 (pl P').toArray ∧ Below w.heap.size w W) ⟨KW.out, below_setCells _ HB.out (by omega)⟩ ?_
      rintro W ⟨kr, hb⟩
      have hl := run_loadVar_mid W (w.heap.size + 1 + 1) 0 43 (pl P') _ (blk_whole kr) Tryz.underlying43 rfl (pl_size P')
      exact bodyPost_ret (v := .tuple #[.agg (pl P').toArray, .int .i64 0]) (results_cell2 Tryz.results69 rfl rfl hl) rfl ⟨by rw [HYes.out.1, HYes.out.2, ← HP.out], hb⟩


theorem rwith_any (P Q : PT) (a : Option Addr) (len cap : Nat) (ks : List Int) (w : World) (row : Row w a len ks) :
    Calls Tryz.prog 69 #[.agg (pl P).toArray, .agg (pl Q).toArray, .slice a len cap] w fun e w' => e = .returned (.tuple #[.agg (pl (withV P Q ks)).toArray, .int .i64 (withE P Q ks)]) ∧ Below w.heap.size w w' := by
  by_cases h : rightT P = true ∧ rightT Q = true
  · exact rwith_yes P Q a len cap ks w h.1 h.2 row
  · have hno := with_no (P := P) (Q := Q) (ks := ks) (by
      unfold withOk
      cases h1 : rightT P <;> cases h2 : rightT Q <;> simp_all)
    rw [hno.1, hno.2]
    refine rwith_no P Q a len cap (rightT P) (rightT Q) w rfl rfl ?_
    cases h1 : rightT P <;> cases h2 : rightT Q <;> simp_all


end Go.Proofs.YtkondkajpmafkaaGreat
