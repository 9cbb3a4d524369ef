/-
  What the reference's Without of layer 6 answers.
-/
import Derived.Test.YtcpgkkphibhdfaaGreatPrtF
namespace Go.Proofs.YtcpgkkphibhdfaaGreat
open Go.RowKit

def subK (s k : Int) : Int := if hasB s k then s - 2 ^ k.toNat else s
theorem subK_bound {s k : Int} (hs : 0 ≤ s ∧ s ≤ 31) : 0 ≤ subK s k ∧ subK s k ≤ 31 := by
  unfold subK
  by_cases c : hasB s k = true
  · rw [if_pos c]
    rcases kOk_cases (has_kOk c) with rfl | rfl | rfl | rfl | rfl
    · have : s % 2 = 1 := by simpa [hasB, hasN] using c
      show 0 ≤ s - 1 ∧ s - 1 ≤ 31
      omega
    · have : s / 2 % 2 = 1 := by simpa [hasB, hasN] using c
      show 0 ≤ s - 2 ∧ s - 2 ≤ 31
      omega
    · have : s / 4 % 2 = 1 := by simpa [hasB, hasN] using c
      show 0 ≤ s - 4 ∧ s - 4 ≤ 31
      omega
    · have : s / 8 % 2 = 1 := by simpa [hasB, hasN] using c
      show 0 ≤ s - 8 ∧ s - 8 ≤ 31
      omega
    · have : s / 16 % 2 = 1 := by simpa [hasB, hasN] using c
      show 0 ≤ s - 16 ∧ s - 16 ≤ 31
      omega
  · rw [if_neg c]; exact hs
theorem shw {k s : Int} (hk : kOk k = true) (h0 : 0 ≤ s) (h1 : s ≤ 31) : IntKind.i64.wrap (s - IntKind.i64.wrap (2 ^ min (IntKind.u64.wrap k).toNat 64)) = s - 2 ^ k.toNat := by
  have e : ∀ x : Int, -100 ≤ x → x ≤ 100 → IntKind.i64.wrap x = x := fun x a b => IntWalk.i64_in _ (by omega)
  rcases kOk_cases hk with rfl | rfl | rfl | rfl | rfl
  · rw [show IntKind.i64.wrap (2 ^ min (IntKind.u64.wrap 0).toNat 64) = 1 by decide]
    exact e (s - 1) (by omega) (by omega)
  · rw [show IntKind.i64.wrap (2 ^ min (IntKind.u64.wrap 1).toNat 64) = 2 by decide]
    exact e (s - 2) (by omega) (by omega)
  · rw [show IntKind.i64.wrap (2 ^ min (IntKind.u64.wrap 2).toNat 64) = 4 by decide]
    exact e (s - 4) (by omega) (by omega)
  · rw [show IntKind.i64.wrap (2 ^ min (IntKind.u64.wrap 3).toNat 64) = 8 by decide]
    exact e (s - 8) (by omega) (by omega)
  · rw [show IntKind.i64.wrap (2 ^ min (IntKind.u64.wrap 4).toNat 64) = 16 by decide]
    exact e (s - 16) (by omega) (by omega)
/-- parts without a kind -/
def stepO (P : PT) (k : Int) : PT := layT k (subK P.1 k, P.2) zT
def woutT (P : PT) (ks : List Int) : PT := ks.foldl stepO P
def woutOk (P : PT) (ks : List Int) : Bool := rightT P && ksOk ks
def woutE (P : PT) (ks : List Int) : Int := if woutOk P ks then 0 else 1
def woutV (P : PT) (ks : List Int) : PT := if woutOk P ks then woutT P ks else zT
theorem wout_no {P : PT} {ks : List Int} (h : woutOk P ks = false) : woutE P ks = 1 ∧ woutV P ks = zT := by unfold woutE woutV; rw [h]; exact ⟨rfl, rfl⟩
theorem wout_yes {P : PT} {ks : List Int} (h : woutOk P ks = true) : woutE P ks = 0 ∧ woutV P ks = woutT P ks := by unfold woutE woutV; rw [if_pos h, if_pos h]; exact ⟨rfl, rfl⟩
theorem wout_succ {P : PT} {ks : List Int} {j : Nat} {k : Int} (h : ks[j]? = some k) : woutT P (ks.take (j + 1)) = stepO (woutT P (ks.take j)) k := by
  unfold woutT
  rw [List.take_add_one, h, List.foldl_append]
  rfl

set_option maxHeartbeats 2000000 in
set_option maxRecDepth 100000 in
theorem rwout_no (P : PT) (a : Option Addr) (len cap : Nat) (w : World) (h : rightT P = false) :
    Calls Tryz.prog 62 #[.agg (pl P).toArray, .slice a len cap] w fun e w' => e = .returned (.tuple #[.agg (pl zT).toArray, .int .i64 1]) ∧ Below w.heap.size w w' := by
  have HO := Lib.hid h
  clear h
  have HSZ := Lib.hid (pl_size' zT)
  have HOZ := Lib.hid (pl_one zT)
  have HLZ := Lib.hid (pl_len zT)
  have KP := Lib.hid ((Blk.new w 44 (pl P).toArray).alloc (.cells (pl zT).toArray 44))
  go_enter Tryz.func62, Tryz.ntmps62
  go_wp2_with (refine wpList_load_mid rfl 44 (.tmp 2) rfl w.heap.size 0 rfl (pl P) _ (blk_whole KP.out) Tryz.underlying44 rfl (pl_size P) ?_)
  go_wp2_with fail
  refine (rrightT HO.out _).mono ?_
  rintro e w1 ⟨rfl, b1⟩
  replace KP := Lib.hid (Blk.keep KP.out b1)
  have KR := Lib.hid (blkAt ((Blk.new (w.alloc (.cells (pl P).toArray 44)) 44 (pl zT).toArray).keep b1) (g' := w.heap.size + 1) (by simp))
  have HB := Lib.hid (bthen (balloc (alloc_below _ _) _) b1)
  clear b1
  go_wp2_with (refine wpList_store_mid rfl 44 (.tmp 4) (.tmp 13) rfl (w.heap.size + 1) 0 (pl zT).toArray rfl rfl (blk_there KR.out (by simp [HLZ.out])) HSZ.out HOZ.out ?_)
  have KW := Lib.hid (splice_all (X := pl zT) (Z := pl zT) rfl ▸ blk_setCells (pl zT) KR.out (by omega))
  refine fin (fun W => Blk W (w.heap.size + 1) 44 (pl zT).toArray ∧ Below w.heap.size w W) ⟨KW.out, below_setCells _ HB.out (by omega)⟩ ?_
  rintro W ⟨kr, hb⟩
  have hl := run_loadVar_mid W (w.heap.size + 1) 0 44 (pl zT) _ (blk_whole kr) Tryz.underlying44 rfl (pl_size zT)
  exact bodyPost_ret (v := .tuple #[.agg (pl zT).toArray, .int .i64 1]) (results_cell2 Tryz.results62 rfl rfl hl) rfl ⟨rfl, hb⟩

set_option maxHeartbeats 8000000 in
set_option maxRecDepth 100000 in
theorem rwout_yes (P : PT) (a : Option Addr) (len cap : Nat) (ks : List Int) (w : World) (h : rightT P = true) (row : Row w a len ks) :
    Calls Tryz.prog 62 #[.agg (pl P).toArray, .slice a len cap] w fun e w' => e = .returned (.tuple #[.agg (pl (woutV P ks)).toArray, .int .i64 (woutE P ks)]) ∧ Below w.heap.size w w' := by
  have HL := Lib.hid row.1
  have hbig := row.2.1
  have HRow := Lib.hid row
  have HO := Lib.hid h
  have hbd := right_bound h
  clear row h
  have HSZ := Lib.hid (pl_size' zT)
  have HOZ := Lib.hid (pl_one zT)
  have HLZ := Lib.hid (pl_len zT)
  have KP := Lib.hid ((Blk.new w 44 (pl P).toArray).alloc (.cells (pl zT).toArray 44))
  go_enter Tryz.func62, Tryz.ntmps62
  go_wp2_with (refine wpList_load_mid rfl 44 (.tmp 2) rfl w.heap.size 0 rfl (pl P) _ (blk_whole KP.out) Tryz.underlying44 rfl (pl_size P) ?_)
  go_wp2_with fail
  refine (rrightT HO.out _).mono ?_
  rintro e w1 ⟨rfl, b1⟩
  replace KP := Lib.hid (Blk.keep KP.out b1)
  have KR := Lib.hid (blkAt ((Blk.new (w.alloc (.cells (pl P).toArray 44)) 44 (pl zT).toArray).keep b1) (g' := w.heap.size + 1) (by simp))
  have HB := Lib.hid (bthen (balloc (alloc_below _ _) _) b1)
  clear b1
  go_wp2
  go_loopw [7] (fun i wr => ∃ j : Nat, ∃ P' : PT, j ≤ len ∧ i = .int .i64 j ∧ P' = woutT P (ks.take j) ∧ ksOk (ks.take j) = true ∧ (0 ≤ P'.1 ∧ P'.1 ≤ 31) ∧ Blk wr w.heap.size 44 (pl P').toArray ∧ Blk wr (w.heap.size + 1) 44 (pl zT).toArray ∧ Below w.heap.size w wr) (fun i _ => len - (intOf i).toNat)
  case atStart => exact ⟨0, P, by omega, rfl, rfl, rfl, hbd, KP.out, KR.out, HB.out⟩
  case round =>
    clear KP KR HB hbd
    obtain ⟨j, P', hj, rfl, hP, hz, hbd, hp, hr, hb⟩ := hrel
    have HP := Lib.hid hP
    have HZ := Lib.hid hz
    have KP := Lib.hid hp
    have KR := Lib.hid hr
    have HB := Lib.hid hb
    clear hP hz hp hr hb
    by_cases hlt : j < len
    · obtain ⟨b, off, k, rfl, hv, c0⟩ := row_at6 (row_keep HRow.out HB.out) hlt
      have HV := Lib.hid hv
      clear hv
      have hj0 : (0 : Int) ≤ (j : Int) := by omega
      have hj1 : (j : Int) < (len : Int) := by omega
      by_cases hk1 : k < 0
      · have HNo := Lib.hid (wout_no (P := P) (ks := ks) (by unfold woutOk; rw [ksOk_bad HV.out (by unfold kOk; simp; omega)]; simp))
        go_wp2_with (refine wpList_store_mid rfl 44 (.tmp 4) (.tmp 32) rfl (w.heap.size + 1) 0 (pl zT).toArray rfl rfl (blk_there KR.out (by simp [HLZ.out])) HSZ.out HOZ.out ?_)
        have KW := Lib.hid (splice_all (X := pl zT) (Z := pl zT) rfl ▸ blk_setCells (pl zT) KR.out (by omega))
        refine fin (fun W => Blk W (w.heap.size + 1) 44 (pl zT).toArray ∧ Below w.heap.size w W) ⟨KW.out, below_setCells _ HB.out (by omega)⟩ ?_
        rintro W ⟨kr, hb⟩
        have hl := run_loadVar_mid W (w.heap.size + 1) 0 44 (pl zT) _ (blk_whole kr) Tryz.underlying44 rfl (pl_size zT)
        exact bodyPost_ret (v := .tuple #[.agg (pl zT).toArray, .int .i64 1]) (results_cell2 Tryz.results62 rfl rfl hl) rfl ⟨by rw [HNo.out.1, HNo.out.2], hb⟩
      · by_cases hk2 : 4 < k
        · have HNo := Lib.hid (wout_no (P := P) (ks := ks) (by unfold woutOk; rw [ksOk_bad HV.out (by unfold kOk; simp; omega)]; simp))
          go_wp2_with (refine wpList_store_mid rfl 44 (.tmp 4) (.tmp 32) rfl (w.heap.size + 1) 0 (pl zT).toArray rfl rfl (blk_there KR.out (by simp [HLZ.out])) HSZ.out HOZ.out ?_)
          have KW := Lib.hid (splice_all (X := pl zT) (Z := pl zT) rfl ▸ blk_setCells (pl zT) KR.out (by omega))
          refine fin (fun W => Blk W (w.heap.size + 1) 44 (pl zT).toArray ∧ Below w.heap.size w W) ⟨KW.out, below_setCells _ HB.out (by omega)⟩ ?_
          rintro W ⟨kr, hb⟩
          have hl := run_loadVar_mid W (w.heap.size + 1) 0 44 (pl zT) _ (blk_whole kr) Tryz.underlying44 rfl (pl_size zT)
          exact bodyPost_ret (v := .tuple #[.agg (pl zT).toArray, .int .i64 1]) (results_cell2 Tryz.results62 rfl rfl hl) rfl ⟨by rw [HNo.out.1, HNo.out.2], hb⟩
        · have HK := Lib.hid (show kOk k = true by unfold kOk; simp; omega)
          have hbw : b < w.heap.size := by
            obtain ⟨_, _, _, e, _, cc⟩ := row_at6 HRow.out hlt
            have zz := cell_lt cc
            simp at e
            rw [e.1]
            exact zz
          have cp : wr.cell? ⟨w.heap.size, 0, none⟩ = some (.int .i64 P'.1) := KP.out.cell 0
          have HN := Lib.hid (ksOk_succ HV.out HZ.out HK.out)
          have HW1 : Hid (woutT P (ks.take (j + 1)) = layT k (subK P'.1 k, P'.2) zT) := Lib.hid (by rw [wout_succ HV.out, ← HP.out]; rfl)
          have HBd := Lib.hid (subK_bound (k := k) hbd)
          have hs0 : 0 ≤ P'.1 := hbd.1
          have hs1 : P'.1 ≤ 31 := hbd.2
          clear HP HV
          cases hb2 : hasB P'.1 k with
          | true =>
            have H2 := Lib.hid hb2
            clear hb2
            go_wp2
            go_region_held3 (fun w' => w'.cell? ⟨w.heap.size, 0, none⟩ = some (.int .i64 P'.1) ∧ w'.cell? ⟨b, off + j, none⟩ = some (.int .i64 k)) (first | exact ⟨cp, c0⟩ | go_keep)
              (first | (go_at_call 93; refine (rhas_b H2.out _).mono ?_; rintro e w6 ⟨rfl, rfl⟩))
            have ea : subK P'.1 k = P'.1 - 2 ^ k.toNat := by unfold subK; rw [if_pos H2.out]
            rw [ea] at HW1 HBd
            clear ea
            have fp := KP.out.frozen 0
            have cw2 : ∀ v, (wr.setCell ⟨w.heap.size, 0, none⟩ v).cell? ⟨b, off + j, none⟩ = some (.int .i64 k) := fun v => by rw [World.cell?_setCell_far _ _ _ _ (by simp; omega)]; exact c0
            have KPs : Hid (∀ v, Blk (wr.setCell ⟨w.heap.size, 0, none⟩ (.int .i64 v)) w.heap.size 44 (pl (v, P'.2)).toArray) := Lib.hid (fun v => by have := KP.out.set_ 0 (.int .i64 v); simpa [pl_set] using this)
            go_wp2
            refine wp_region_held_drew (S := fun w' => w'.cell? ⟨b, off + j, none⟩ = some (.int .i64 k)) (by kernel_rfl) (c0) (fun hHeld => ?_)
            refine wpAnyH_take (i := 0) (v := ?_) rfl (by kernel_rfl) (by kernel_rfl) (by kernel_rfl) (fun _ _ _ h => h) (Or.inl ⟨by rfl, ?_⟩) hHeld ?_
            rotate_left
            · intro w hSw
              go_simp
              with_reducible rfl
            simp only [Act.put, List.getElem_toArray, List.getElem_cons_zero, List.setIfInBounds_toArray, List.set_cons_zero, List.set_cons_succ]
            refine wpAnyH_take (i := 2) (v := ?_) rfl (by kernel_rfl) (by kernel_rfl) (by kernel_rfl) (fun _ _ _ h => h) (Or.inl ⟨by rfl, ?_⟩) hHeld ?_
            rotate_left
            · intro w hSw
              go_simp
              with_reducible rfl
            simp only [Act.put, List.getElem_toArray, List.getElem_cons_zero, List.getElem_cons_succ, List.setIfInBounds_toArray, List.set_cons_zero, List.set_cons_succ]
            refine wpAnyH_take (i := 3) (v := ?_) rfl (by kernel_rfl) (by kernel_rfl) (by kernel_rfl) (fun _ _ _ h => h) (Or.inl ⟨by rfl, ?_⟩) hHeld ?_
            rotate_left
            · intro w hSw
              go_simp
              with_reducible rfl
            simp only [Act.put, List.getElem_toArray, List.getElem_cons_zero, List.getElem_cons_succ, List.setIfInBounds_toArray, List.set_cons_zero, List.set_cons_succ]
            refine wpAnyH_take (i := 4) (v := ?_) rfl (by kernel_rfl) (by kernel_rfl) (by kernel_rfl) (fun _ _ _ h => h) (Or.inl ⟨by rfl, ?_⟩) hHeld ?_
            rotate_left
            · intro w hSw
              go_simp
              with_reducible rfl
            simp only [Act.put, List.getElem_toArray, List.getElem_cons_zero, List.getElem_cons_succ, List.setIfInBounds_toArray, List.set_cons_zero, List.set_cons_succ]
            refine wpAnyH_take (i := 5) (v := ?_) rfl (by kernel_rfl) (by kernel_rfl) (by kernel_rfl) (fun _ _ _ h => h) (Or.inl ⟨by rfl, ?_⟩) hHeld ?_
            rotate_left
            · intro w hSw
              go_simp
              with_reducible rfl
            simp only [Act.put, List.getElem_toArray, List.getElem_cons_zero, List.getElem_cons_succ, List.setIfInBounds_toArray, List.set_cons_zero, List.set_cons_succ]
            refine wpAnyH_take (i := 6) (v := ?_) rfl (by kernel_rfl) (by kernel_rfl) (by kernel_rfl) (fun _ _ _ h => h) (Or.inl ⟨by rfl, ?_⟩) hHeld ?_
            rotate_left
            · intro w hSw
              go_simp
              with_reducible rfl
            simp only [Act.put, List.getElem_toArray, List.getElem_cons_zero, List.getElem_cons_succ, List.setIfInBounds_toArray, List.set_cons_zero, List.set_cons_succ]
            refine wpAnyH_take (i := 7) (v := ?_) rfl (by kernel_rfl) (by kernel_rfl) (by kernel_rfl) (fun _ _ _ h => h) (Or.inl ⟨by rfl, ?_⟩) hHeld ?_
            rotate_left
            · intro w hSw
              go_simp
              with_reducible rfl
            simp only [Act.put, List.getElem_toArray, List.getElem_cons_zero, List.getElem_cons_succ, List.setIfInBounds_toArray, List.set_cons_zero, List.set_cons_succ]
            refine wpAnyH_ready (rs := [1]) (by kernel_rfl) (by simp) ?_
            refine AllReadyH.cons rfl (fun K hK => ?_) AllReadyH.nil
            go_simp
            refine hK.out _ _ (c0) (fun hHeld => ?_)
            clear hK K
            refine wpAnyH_take (i := 8) (v := ?_) rfl (by kernel_rfl) (by kernel_rfl) (by kernel_rfl) (fun _ _ _ h => h) (Or.inl ⟨by rfl, ?_⟩) hHeld ?_
            rotate_left
            · intro w hSw
              go_simp
              with_reducible rfl
            simp only [Act.put, List.getElem_toArray, List.getElem_cons_zero, List.getElem_cons_succ, List.setIfInBounds_toArray, List.set_cons_zero, List.set_cons_succ]
            refine wpAnyH_take (i := 9) (v := ?_) rfl (by kernel_rfl) (by kernel_rfl) (by kernel_rfl) (fun _ _ _ h => h) (Or.inl ⟨by rfl, ?_⟩) hHeld ?_
            rotate_left
            · intro w hSw
              go_simp
              with_reducible rfl
            simp only [Act.put, List.getElem_toArray, List.getElem_cons_zero, List.getElem_cons_succ, List.setIfInBounds_toArray, List.set_cons_zero, List.set_cons_succ]
            refine wpAnyH_ready (rs := [10]) (by kernel_rfl) (by simp) ?_
            refine AllReadyH.cons rfl (fun K hK => ?_) AllReadyH.nil
            go_simp
            refine hK.out _ _ (cw2 _) (fun hHeld => ?_)
            clear hK K
            refine wpAnyH_done (by kernel_rfl) ?_ _
            clear hHeld
            rw [shw HK.out hs0 hs1]
            refine fin (fun W => Blk W w.heap.size 44 (pl (P'.1 - 2 ^ k.toNat, P'.2)).toArray ∧ Blk W (w.heap.size + 1) 44 (pl zT).toArray ∧ Below w.heap.size w W ∧ W.cell? ⟨b, off + j, none⟩ = some (.int .i64 k)) ⟨Blk.drew (Blk.drew (KPs.out _)), Blk.drew (Blk.drew (KR.out.far (p := ⟨w.heap.size, 0, none⟩) (by simp) _)), bdrewn (bdrewn (HB.out.setCell (p := ⟨w.heap.size, 0, none⟩) (Nat.le_refl _) _)), cw2 _⟩ ?_
            clear KP KR HB c0 cp
            rintro W ⟨kp, kr, hb, cw⟩
            have KP := Lib.hid kp
            have KR := Lib.hid kr
            have HB := Lib.hid hb
            clear kp kr hb
            clear cw2 KPs fp
            go_wp2
            have hu := Tryz.underlying44
            refine wp_region_held_drew (S := fun w' => w'.cell? ⟨b, off + j, none⟩ = some (.int .i64 k)) (by kernel_rfl) (cw) (fun hHeld => ?_)
            refine wpAnyH_take (i := 1) (v := ?_) rfl (by kernel_rfl) (by kernel_rfl) (by kernel_rfl) (fun _ _ _ h => h) (Or.inl ⟨by rfl, ?_⟩) hHeld ?_
            rotate_left
            · intro w hSw
              go_simp
              with_reducible rfl
            simp only [Act.put, List.getElem_toArray, List.getElem_cons_zero, List.getElem_cons_succ, List.setIfInBounds_toArray, List.set_cons_zero, List.set_cons_succ]
            refine wpAnyH_take (i := 2) (v := ?_) rfl (by kernel_rfl) (by kernel_rfl) (by kernel_rfl) (fun _ _ _ h => h) (Or.inl ⟨by rfl, ?_⟩) hHeld ?_
            rotate_left
            · intro w hSw
              go_simp
              with_reducible rfl
            simp only [Act.put, List.getElem_toArray, List.getElem_cons_zero, List.getElem_cons_succ, List.setIfInBounds_toArray, List.set_cons_zero, List.set_cons_succ]
            refine wpAnyH_take (i := 3) (v := ?_) rfl (by kernel_rfl) (by kernel_rfl) (by kernel_rfl) (fun _ _ _ h => h) (Or.inl ⟨by rfl, ?_⟩) hHeld ?_
            rotate_left
            · intro w hSw
              go_simp
              with_reducible rfl
            simp only [Act.put, List.getElem_toArray, List.getElem_cons_zero, List.getElem_cons_succ, List.setIfInBounds_toArray, List.set_cons_zero, List.set_cons_succ]
            refine wpAnyH_take (i := 4) (v := ?_) rfl (by kernel_rfl) (by kernel_rfl) (by kernel_rfl) (fun _ _ _ h => h) (Or.inl ⟨by rfl, ?_⟩) hHeld ?_
            rotate_left
            · intro w hSw
              go_simp
              with_reducible rfl
            simp only [Act.put, List.getElem_toArray, List.getElem_cons_zero, List.getElem_cons_succ, List.setIfInBounds_toArray, List.set_cons_zero, List.set_cons_succ]
            refine wpAnyH_take (i := 5) (v := ?_) rfl (by kernel_rfl) (by kernel_rfl) (by kernel_rfl) (fun _ _ _ h => h) (Or.inl ⟨by rfl, ?_⟩) hHeld ?_
            rotate_left
            · intro w hSw
              go_simp
              with_reducible rfl
            simp only [Act.put, List.getElem_toArray, List.getElem_cons_zero, List.getElem_cons_succ, List.setIfInBounds_toArray, List.set_cons_zero, List.set_cons_succ]
            refine wpAnyH_ready (rs := [0]) (by kernel_rfl) (by simp) ?_
            refine AllReadyH.cons rfl (fun K hK => ?_) AllReadyH.nil
            rw [if_pos (by rfl)]
            refine wp_load_mid 44 _ rfl w.heap.size 0 rfl (pl (P'.1 - 2 ^ k.toNat, P'.2)) _ (blk_whole (Blk.drew KP.out)) hu rfl (pl_size _) ?_
            simp only [Act.put, List.getElem_toArray, List.getElem_cons_zero, List.setIfInBounds_toArray, List.set_cons_zero, List.set_cons_succ]
            refine hK.out _ _ hHeld (fun hHeld => ?_)
            clear hK K
            refine wpAnyH_ready (rs := [6]) (by kernel_rfl) (by simp) ?_
            refine AllReadyH.cons rfl (fun K hK => ?_) AllReadyH.nil
            go_simp
            go_at_call 94
            refine (rlayT k (P'.1 - 2 ^ k.toNat, P'.2) zT _).mono ?_
            rintro e w4 ⟨rfl, b4⟩
            go_wp2_with fail
            refine hK.out _ _ (cell_keep cw (bdrew b4)) (fun hHeld => ?_)
            clear hK K
            have B4 := Lib.hid (bdrew b4)
            clear b4
            replace KP := Lib.hid (Blk.keep KP.out B4.out)
            replace KR := Lib.hid (Blk.keep KR.out B4.out)
            replace HB := Lib.hid (bthen HB.out B4.out)
            have c4 := cell_keep cw B4.out
            clear B4 cw
            have HS5 := Lib.hid (splice_all (X := pl (layT k (P'.1 - 2 ^ k.toNat, P'.2) zT)) (Z := pl (P'.1 - 2 ^ k.toNat, P'.2)) rfl ▸ blk_setCells (pl (layT k (P'.1 - 2 ^ k.toNat, P'.2) zT)) KP.out (by simp [pl_len]))
            have c5 : (w4.setCells w.heap.size 0 (pl (layT k (P'.1 - 2 ^ k.toNat, P'.2) zT))).cell? ⟨b, off + j, none⟩ = some (.int .i64 k) := by rw [World.cell?_setCells_out _ _ _ _ _ (fun e => absurd e (by simp; omega))]; exact c4
            refine wpAnyH_ready (rs := [7]) (by kernel_rfl) (by simp) ?_
            refine AllReadyH.cons rfl (fun K hK => ?_) AllReadyH.nil
            rw [if_pos (by rfl)]
            refine wp_store_mid 44 _ _ rfl w.heap.size 0 (pl (layT k (P'.1 - 2 ^ k.toNat, P'.2) zT)).toArray rfl rfl (blk_there KP.out (by simp [pl_len])) (pl_size' _) (pl_one _) ?_
            refine hK.out _ _ c5 (fun hHeld => ?_)
            clear hK K
            refine wpAnyH_done (by kernel_rfl) ?_ _
            clear hHeld
            refine fin (fun W => Blk W w.heap.size 44 (pl (layT k (P'.1 - 2 ^ k.toNat, P'.2) zT)).toArray ∧ Blk W (w.heap.size + 1) 44 (pl zT).toArray ∧ Below w.heap.size w W) ⟨HS5.out, blk_setFar _ KR.out (by omega), below_setCells _ HB.out (Nat.le_refl _)⟩ ?_
            clear KP KR HB c4 c5 HS5 hu
            rintro W2 ⟨kp, kr, hb⟩
            have KP := Lib.hid kp
            have KR := Lib.hid kr
            have HB := Lib.hid hb
            clear kp kr hb
            go_wp2
            go_roundw
            case rel => exact ⟨j + 1, layT k (P'.1 - 2 ^ k.toNat, P'.2) zT, by omega, by go_num, HW1.out.symm, HN.out, by rw [layT_has]; exact HBd.out, KP.out, KR.out, HB.out⟩
            case measure => simp [intOf] <;> omega
          | false =>
            have H2 := Lib.hid hb2
            clear hb2
            go_wp2
            go_region_held3 (fun w' => w'.cell? ⟨w.heap.size, 0, none⟩ = some (.int .i64 P'.1) ∧ w'.cell? ⟨b, off + j, none⟩ = some (.int .i64 k)) (first | exact ⟨cp, c0⟩ | go_keep)
              (first | (go_at_call 93; refine (rhas_b H2.out _).mono ?_; rintro e w6 ⟨rfl, rfl⟩))
            have ea : subK P'.1 k = P'.1 := by unfold subK; rw [if_neg (by rw [H2.out]; simp)]
            rw [ea] at HW1 HBd
            clear ea
            go_wp2
            refine fin (fun W => Blk W w.heap.size 44 (pl (P'.1, P'.2)).toArray ∧ Blk W (w.heap.size + 1) 44 (pl zT).toArray ∧ Below w.heap.size w W ∧ W.cell? ⟨b, off + j, none⟩ = some (.int .i64 k)) ⟨Blk.drew KP.out, Blk.drew KR.out, bdrewn HB.out, c0⟩ ?_
            clear KP KR HB c0 cp
            rintro W ⟨kp, kr, hb, cw⟩
            have KP := Lib.hid kp
            have KR := Lib.hid kr
            have HB := Lib.hid hb
            clear kp kr hb
            have hu := Tryz.underlying44
            refine wp_region_held_drew (S := fun w' => w'.cell? ⟨b, off + j, none⟩ = some (.int .i64 k)) (by kernel_rfl) (cw) (fun hHeld => ?_)
            refine wpAnyH_take (i := 1) (v := ?_) rfl (by kernel_rfl) (by kernel_rfl) (by kernel_rfl) (fun _ _ _ h => h) (Or.inl ⟨by rfl, ?_⟩) hHeld ?_
            rotate_left
            · intro w hSw
              go_simp
              with_reducible rfl
            simp only [Act.put, List.getElem_toArray, List.getElem_cons_zero, List.getElem_cons_succ, List.setIfInBounds_toArray, List.set_cons_zero, List.set_cons_succ]
            refine wpAnyH_take (i := 2) (v := ?_) rfl (by kernel_rfl) (by kernel_rfl) (by kernel_rfl) (fun _ _ _ h => h) (Or.inl ⟨by rfl, ?_⟩) hHeld ?_
            rotate_left
            · intro w hSw
              go_simp
              with_reducible rfl
            simp only [Act.put, List.getElem_toArray, List.getElem_cons_zero, List.getElem_cons_succ, List.setIfInBounds_toArray, List.set_cons_zero, List.set_cons_succ]
            refine wpAnyH_take (i := 3) (v := ?_) rfl (by kernel_rfl) (by kernel_rfl) (by kernel_rfl) (fun _ _ _ h => h) (Or.inl ⟨by rfl, ?_⟩) hHeld ?_
            rotate_left
            · intro w hSw
              go_simp
              with_reducible rfl
            simp only [Act.put, List.getElem_toArray, List.getElem_cons_zero, List.getElem_cons_succ, List.setIfInBounds_toArray, List.set_cons_zero, List.set_cons_succ]
            refine wpAnyH_take (i := 4) (v := ?_) rfl (by kernel_rfl) (by kernel_rfl) (by kernel_rfl) (fun _ _ _ h => h) (Or.inl ⟨by rfl, ?_⟩) hHeld ?_
            rotate_left
            · intro w hSw
              go_simp
              with_reducible rfl
            simp only [Act.put, List.getElem_toArray, List.getElem_cons_zero, List.getElem_cons_succ, List.setIfInBounds_toArray, List.set_cons_zero, List.set_cons_succ]
            refine wpAnyH_take (i := 5) (v := ?_) rfl (by kernel_rfl) (by kernel_rfl) (by kernel_rfl) (fun _ _ _ h => h) (Or.inl ⟨by rfl, ?_⟩) hHeld ?_
            rotate_left
            · intro w hSw
              go_simp
              with_reducible rfl
            simp only [Act.put, List.getElem_toArray, List.getElem_cons_zero, List.getElem_cons_succ, List.setIfInBounds_toArray, List.set_cons_zero, List.set_cons_succ]
            refine wpAnyH_ready (rs := [0]) (by kernel_rfl) (by simp) ?_
            refine AllReadyH.cons rfl (fun K hK => ?_) AllReadyH.nil
            rw [if_pos (by rfl)]
            refine wp_load_mid 44 _ rfl w.heap.size 0 rfl (pl (P'.1, P'.2)) _ (blk_whole (Blk.drew KP.out)) hu rfl (pl_size _) ?_
            simp only [Act.put, List.getElem_toArray, List.getElem_cons_zero, List.setIfInBounds_toArray, List.set_cons_zero, List.set_cons_succ]
            refine hK.out _ _ hHeld (fun hHeld => ?_)
            clear hK K
            refine wpAnyH_ready (rs := [6]) (by kernel_rfl) (by simp) ?_
            refine AllReadyH.cons rfl (fun K hK => ?_) AllReadyH.nil
            go_simp
            go_at_call 94
            refine (rlayT k (P'.1, P'.2) zT _).mono ?_
            rintro e w4 ⟨rfl, b4⟩
            go_wp2_with fail
            refine hK.out _ _ (cell_keep cw (bdrew b4)) (fun hHeld => ?_)
            clear hK K
            have B4 := Lib.hid (bdrew b4)
            clear b4
            replace KP := Lib.hid (Blk.keep KP.out B4.out)
            replace KR := Lib.hid (Blk.keep KR.out B4.out)
            replace HB := Lib.hid (bthen HB.out B4.out)
            have c4 := cell_keep cw B4.out
            clear B4 cw
            have HS5 := Lib.hid (splice_all (X := pl (layT k (P'.1, P'.2) zT)) (Z := pl (P'.1, P'.2)) rfl ▸ blk_setCells (pl (layT k (P'.1, P'.2) zT)) KP.out (by simp [pl_len]))
            have c5 : (w4.setCells w.heap.size 0 (pl (layT k (P'.1, P'.2) zT))).cell? ⟨b, off + j, none⟩ = some (.int .i64 k) := by rw [World.cell?_setCells_out _ _ _ _ _ (fun e => absurd e (by simp; omega))]; exact c4
            refine wpAnyH_ready (rs := [7]) (by kernel_rfl) (by simp) ?_
            refine AllReadyH.cons rfl (fun K hK => ?_) AllReadyH.nil
            rw [if_pos (by rfl)]
            refine wp_store_mid 44 _ _ rfl w.heap.size 0 (pl (layT k (P'.1, P'.2) zT)).toArray rfl rfl (blk_there KP.out (by simp [pl_len])) (pl_size' _) (pl_one _) ?_
            refine hK.out _ _ c5 (fun hHeld => ?_)
            clear hK K
            refine wpAnyH_done (by kernel_rfl) ?_ _
            clear hHeld
            refine fin (fun W => Blk W w.heap.size 44 (pl (layT k (P'.1, P'.2) zT)).toArray ∧ Blk W (w.heap.size + 1) 44 (pl zT).toArray ∧ Below w.heap.size w W) ⟨HS5.out, blk_setFar _ KR.out (by omega), below_setCells _ HB.out (Nat.le_refl _)⟩ ?_
            clear KP KR HB c4 c5 HS5 hu
            rintro W2 ⟨kp, kr, hb⟩
            have KP := Lib.hid kp
            have KR := Lib.hid kr
            have HB := Lib.hid hb
            clear kp kr hb
            go_wp2
            go_roundw
            case rel => exact ⟨j + 1, layT k (P'.1, P'.2) zT, by omega, by go_num, HW1.out.symm, HN.out, by rw [layT_has]; exact HBd.out, KP.out, KR.out, HB.out⟩
            case measure => simp [intOf] <;> omega
    · obtain rfl : j = len := by omega
      have et : ks.take j = ks := List.take_of_length_le (by rw [HL.out]; exact Nat.le_refl _)
      rw [et] at HP HZ
      have hyes := wout_yes (P := P) (ks := ks) (by unfold woutOk; rw [HO.out, HZ.out]; rfl)
      have HYes := Lib.hid hyes
      clear et hyes
      go_wp2_with (first | refine wpList_load_mid rfl 44 (.tmp 2) rfl w.heap.size 0 rfl (pl P') _ (blk_whole KP.out) Tryz.underlying44 rfl (pl_size P') ?_ | refine wpList_store_mid rfl 44 (.tmp 4) (.tmp 58) rfl (w.heap.size + 1) 0 (pl P').toArray rfl rfl (blk_there KR.out (by simp [pl_len])) (pl_size' P') (pl_one P') ?_)
      have KW := Lib.hid (splice_all (X := pl P') (Z := pl zT) rfl ▸ blk_setCells (pl P') KR.out (by simp [pl_len]))
      refine fin (fun W => Blk W (w.heap.size + 1) 44 (pl P').toArray ∧ Below w.heap.size w W) ⟨KW.out, below_setCells _ HB.out (by omega)⟩ ?_
      rintro W ⟨kr, hb⟩
      have hl := run_loadVar_mid W (w.heap.size + 1) 0 44 (pl P') _ (blk_whole kr) Tryz.underlying44 rfl (pl_size P')
      exact bodyPost_ret (v := .tuple #[.agg (pl P').toArray, .int .i64 0]) (results_cell2 Tryz.results62 rfl rfl hl) rfl ⟨by rw [HYes.out.1, HYes.out.2, ← HP.out], hb⟩

theorem rwout_any (P : PT) (a : Option Addr) (len cap : Nat) (ks : List Int) (w : World) (row : Row w a len ks) :
    Calls Tryz.prog 62 #[.agg (pl P).toArray, .slice a len cap] w fun e w' => e = .returned (.tuple #[.agg (pl (woutV P ks)).toArray, .int .i64 (woutE P ks)]) ∧ Below w.heap.size w w' := by
  by_cases h : rightT P = true
  · exact rwout_yes P a len cap ks w h row
  · have h2 : rightT P = false := by simpa using h
    have hno := wout_no (P := P) (ks := ks) (by unfold woutOk; rw [h2]; rfl)
    rw [hno.1, hno.2]
    exact rwout_no P a len cap w h2

end Go.Proofs.YtcpgkkphibhdfaaGreat
