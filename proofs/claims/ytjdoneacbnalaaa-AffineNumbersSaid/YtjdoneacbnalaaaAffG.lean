/-
  What package affine's pair answers: the product of two matrices.
-/
import Derived.Test.YtjdoneacbnalaaaAffF
namespace Go.Proofs.Ytjdoneacbnalaaa
open Go.RowKit

/-- the first error of n, place by place -/
def firstN (e : Nat → Int) : Nat → Int
  | 0 => 0
  | n + 1 => if firstN e n = 0 then e n else firstN e n
theorem firstN_none {e : Nat → Int} : ∀ {n : Nat}, (∀ j, j < n → e j = 0) → firstN e n = 0
  | 0, _ => rfl
  | n + 1, h => by
    unfold firstN
    rw [if_pos (firstN_none (fun j hj => h j (by omega)))]
    exact h n (by omega)
theorem firstN_at {e : Nat → Int} {k : Nat} (h : ∀ j, j < k → e j = 0) (he : e k ≠ 0) : ∀ {n : Nat}, k < n → firstN e n = e k
  | 0, hk => by omega
  | n + 1, hk => by
    unfold firstN
    by_cases c : k = n
    · subst c; rw [if_pos (firstN_none h)]
    · have i := firstN_at h he (n := n) (by omega)
      rw [if_neg (by rw [i]; exact he), i]
theorem firstN_zero {e : Nat → Int} : ∀ {n : Nat}, firstN e n = 0 → ∀ j, j < n → e j = 0
  | 0, _, j, hj => by omega
  | n + 1, h, j, hj => by
    unfold firstN at h
    by_cases c : firstN e n = 0
    · rw [if_pos c] at h
      by_cases d : j = n
      · rw [d]; exact h
      · exact firstN_zero c j (by omega)
    · rw [if_neg c] at h; exact absurd h c

/-- what is added besides the products -/
def pairL (A : Nat → Int) (r p : Nat) : Int := if p = 3 then A (4 * r + 3) else 0
def pV (A B : Nat → Int) (k : Nat) : Int := alV A (k / 4) (colM B (k % 4)) (pairL A (k / 4) (k % 4))
def pE (A B : Nat → Int) (k : Nat) : Int := alE A (k / 4) (colM B (k % 4)) (pairL A (k / 4) (k % 4))
/-- the product of two that may be -/
def prodE2 (A B : Nat → Int) : Int := firstN (pE A B) 12
def prodM (A B : Nat → Int) (k : Nat) : Int := gate (prodE2 A B) (pV A B k)
theorem pV_at (A B : Nat → Int) {r p : Nat} (hp : p < 4) : pV A B (4 * r + p) = alV A r (colM B p) (pairL A r p) := by
  unfold pV; rw [show (4 * r + p) / 4 = r by omega, show (4 * r + p) % 4 = p by omega]
theorem pE_at (A B : Nat → Int) {r p : Nat} (hp : p < 4) : pE A B (4 * r + p) = alE A r (colM B p) (pairL A r p) := by
  unfold pE; rw [show (4 * r + p) / 4 = r by omega, show (4 * r + p) % 4 = p by omega]
theorem prod_ok {A B : Nat → Int} (h : prodE2 A B = 0) (k : Nat) : prodM A B k = pV A B k := by unfold prodM; rw [h]; rfl
theorem prod_no {A B : Nat → Int} (h : prodE2 A B ≠ 0) (k : Nat) : prodM A B k = 0 := by unfold prodM gate; rw [if_neg h]

theorem laid12_start (w : World) (t : TypeId) (f : Nat → Int) : (w.alloc (.cells #[.int .i64 0, .int .i64 0, .int .i64 0, .int .i64 0, .int .i64 0, .int .i64 0, .int .i64 0, .int .i64 0, .int .i64 0, .int .i64 0, .int .i64 0, .int .i64 0] t)).rowIs w.heap.size t 12 (laidTo f 0) := by
  refine (World.rowIs_alloc w _ t (laidTo f 0) (fun i hi => ?_))
  rcases lt12 (k := i) (by simpa using hi) with rfl | rfl | rfl | rfl | rfl | rfl | rfl | rfl | rfl | rfl | rfl | rfl <;> rfl
theorem blk_of_row {w : World} {b : Nat} {t : TypeId} {f : Nat → Int} (h : w.rowIs b t 12 (laidTo f (4 * 3))) : Blk w b t #[.int .i64 (f 0), .int .i64 (f 1), .int .i64 (f 2), .int .i64 (f 3), .int .i64 (f 4), .int .i64 (f 5), .int .i64 (f 6), .int .i64 (f 7), .int .i64 (f 8), .int .i64 (f 9), .int .i64 (f 10), .int .i64 (f 11)] := by
  obtain ⟨c, hh, hs, hc⟩ := h
  have e : c = #[.int .i64 (f 0), .int .i64 (f 1), .int .i64 (f 2), .int .i64 (f 3), .int .i64 (f 4), .int .i64 (f 5), .int .i64 (f 6), .int .i64 (f 7), .int .i64 (f 8), .int .i64 (f 9), .int .i64 (f 10), .int .i64 (f 11)] := by
    apply Array.ext
    · simp [hs]
    · intro i h1 h2
      have hi := hc i (by omega)
      rw [Array.getElem?_eq_getElem h1] at hi
      rcases lt12 (k := i) (by omega) with rfl | rfl | rfl | rfl | rfl | rfl | rfl | rfl | rfl | rfl | rfl | rfl <;> simpa [laidTo] using hi
  unfold Blk
  rw [hh, e]
theorem rangeM {w : World} {g : Nat} {t : TypeId} {A : Nat → Int} (hA : Blk w g t #[.int .i64 (A 0), .int .i64 (A 1), .int .i64 (A 2), .int .i64 (A 3), .int .i64 (A 4), .int .i64 (A 5), .int .i64 (A 6), .int .i64 (A 7), .int .i64 (A 8), .int .i64 (A 9), .int .i64 (A 10), .int .i64 (A 11)]) : w.rangeAt g 0 [.int .i64 (A 0), .int .i64 (A 1), .int .i64 (A 2), .int .i64 (A 3), .int .i64 (A 4), .int .i64 (A 5), .int .i64 (A 6), .int .i64 (A 7), .int .i64 (A 8), .int .i64 (A 9), .int .i64 (A 10), .int .i64 (A 11)] := fun j v hv => by
  rw [Nat.zero_add, hA.cell j]
  simpa using hv
theorem range2 {w : World} {g g' : Nat} {t t' : TypeId} {A B : Nat → Int} (hA : Blk w g t #[.int .i64 (A 0), .int .i64 (A 1), .int .i64 (A 2), .int .i64 (A 3), .int .i64 (A 4), .int .i64 (A 5), .int .i64 (A 6), .int .i64 (A 7), .int .i64 (A 8), .int .i64 (A 9), .int .i64 (A 10), .int .i64 (A 11)]) (hB : Blk w g' t' #[.int .i64 (B 0), .int .i64 (B 1), .int .i64 (B 2), .int .i64 (B 3), .int .i64 (B 4), .int .i64 (B 5), .int .i64 (B 6), .int .i64 (B 7), .int .i64 (B 8), .int .i64 (B 9), .int .i64 (B 10), .int .i64 (B 11)]) : w.rangeAt g 0 [.int .i64 (A 0), .int .i64 (A 1), .int .i64 (A 2), .int .i64 (A 3), .int .i64 (A 4), .int .i64 (A 5), .int .i64 (A 6), .int .i64 (A 7), .int .i64 (A 8), .int .i64 (A 9), .int .i64 (A 10), .int .i64 (A 11)] ∧ w.rangeAt g' 0 [.int .i64 (B 0), .int .i64 (B 1), .int .i64 (B 2), .int .i64 (B 3), .int .i64 (B 4), .int .i64 (B 5), .int .i64 (B 6), .int .i64 (B 7), .int .i64 (B 8), .int .i64 (B 9), .int .i64 (B 10), .int .i64 (B 11)] := ⟨rangeM hA, rangeM hB⟩
theorem sizeM (A : Nat → Int) : (Try.prog.info? 25).map (·.size) = some ([.int .i64 (A 0), .int .i64 (A 1), .int .i64 (A 2), .int .i64 (A 3), .int .i64 (A 4), .int .i64 (A 5), .int .i64 (A 6), .int .i64 (A 7), .int .i64 (A 8), .int .i64 (A 9), .int .i64 (A 10), .int .i64 (A 11)] : List Value).length := by kernel_rfl

theorem column_3 (M : Nat → Int) (w : World) :
    Calls Try.prog 32 #[.agg #[.int .i64 (M 0), .int .i64 (M 1), .int .i64 (M 2), .int .i64 (M 3), .int .i64 (M 4), .int .i64 (M 5), .int .i64 (M 6), .int .i64 (M 7), .int .i64 (M 8), .int .i64 (M 9), .int .i64 (M 10), .int .i64 (M 11)], .int .i64 3] w fun e w' => e = .returned (.agg #[.int .i64 (colM M 3 0), .int .i64 (colM M 3 1), .int .i64 (colM M 3 2)]) ∧ Below w.heap.size w w' := column_any M 3 w (by omega)

set_option maxHeartbeats 4000000 in
theorem pair_any (A B : Nat → Int) (w : World) :
    Calls Try.prog 24 #[.agg #[.int .i64 (A 0), .int .i64 (A 1), .int .i64 (A 2), .int .i64 (A 3), .int .i64 (A 4), .int .i64 (A 5), .int .i64 (A 6), .int .i64 (A 7), .int .i64 (A 8), .int .i64 (A 9), .int .i64 (A 10), .int .i64 (A 11)], .agg #[.int .i64 (B 0), .int .i64 (B 1), .int .i64 (B 2), .int .i64 (B 3), .int .i64 (B 4), .int .i64 (B 5), .int .i64 (B 6), .int .i64 (B 7), .int .i64 (B 8), .int .i64 (B 9), .int .i64 (B 10), .int .i64 (B 11)]] w fun e w' => e = .returned (.tuple #[.agg #[.int .i64 (prodM A B 0), .int .i64 (prodM A B 1), .int .i64 (prodM A B 2), .int .i64 (prodM A B 3), .int .i64 (prodM A B 4), .int .i64 (prodM A B 5), .int .i64 (prodM A B 6), .int .i64 (prodM A B 7), .int .i64 (prodM A B 8), .int .i64 (prodM A B 9), .int .i64 (prodM A B 10), .int .i64 (prodM A B 11)], .int .i64 (prodE2 A B)]) ∧ Below w.heap.size w w' := by
  go_enter Try.func24, Try.ntmps24
  go_wp2
  go_loopw [12] (fun i wr => ∃ r : Nat, r ≤ 3 ∧ i = .int .i64 r ∧ (∀ j, j < 4 * r → pE A B j = 0) ∧ wr.rowIs (w.heap.size + 3) 25 12 (laidTo (pV A B) (4 * r)) ∧ BM wr w.heap.size A ∧ BM wr (w.heap.size + 1) B ∧ Blk wr (w.heap.size + 2) 25 #[.int .i64 0, .int .i64 0, .int .i64 0, .int .i64 0, .int .i64 0, .int .i64 0, .int .i64 0, .int .i64 0, .int .i64 0, .int .i64 0, .int .i64 0, .int .i64 0] ∧ Below w.heap.size w wr) (fun i _ => 3 - (intOf i).toNat)
  case atStart => exact ⟨0, by omega, rfl, fun j hj => by omega, rowIs_at (laid12_start _ _ _) (by simp), (((Blk.new w _ _).alloc _).alloc _).alloc _, (blkAt (((Blk.new (w.alloc _) _ _).alloc _).alloc _) (by simp)), (blkAt ((Blk.new ((w.alloc _).alloc _) _ _).alloc _) (by simp)), balloc (balloc (balloc (alloc_below _ _) _) _) _⟩
  case round =>
    obtain ⟨r, hr3, rfl, hz, hrow, ha, hbm, hres, hb⟩ := hrel
    have HZ := Lib.hid hz
    have HRow := Lib.hid hrow
    have HA := Lib.hid ha
    have HBm := Lib.hid hbm
    have HRes := Lib.hid hres
    have HB := Lib.hid hb
    clear hz hrow ha hbm hres hb
    by_cases hr : r < 3
    · have hrd : decide ((r : Int) < 3) = true := by simp; omega
      go_wp2
      go_loopw [15] (fun i wi => ∃ p : Nat, p ≤ 4 ∧ i = .int .i64 p ∧ (∀ j, j < 4 * r + p → pE A B j = 0) ∧ wi.rowIs (w.heap.size + 3) 25 12 (laidTo (pV A B) (4 * r + p)) ∧ BM wi w.heap.size A ∧ BM wi (w.heap.size + 1) B ∧ Blk wi (w.heap.size + 2) 25 #[.int .i64 0, .int .i64 0, .int .i64 0, .int .i64 0, .int .i64 0, .int .i64 0, .int .i64 0, .int .i64 0, .int .i64 0, .int .i64 0, .int .i64 0, .int .i64 0] ∧ Below w.heap.size w wi) (fun i _ => 4 - (intOf i).toNat)
      case atStart => exact ⟨0, by omega, rfl, HZ.out, HRow.out, HA.out, HBm.out, HRes.out, HB.out⟩
      case round =>
        clear HZ HRow HA HBm HRes HB
        obtain ⟨p, hp4, rfl, hz, hrow, ha, hbm, hres, hb⟩ := hrel
        have HZ := Lib.hid hz
        have HRow := Lib.hid hrow
        have HA := Lib.hid ha
        have HBm := Lib.hid hbm
        have HRes := Lib.hid hres
        have HB := Lib.hid hb
        clear hz hrow ha hbm hres hb
        by_cases hp : p < 4
        · obtain ⟨n, hn⟩ : ∃ n, n = 4 * r + p := ⟨_, rfl⟩
          have HN := Lib.hid hn
          have hn12 : n < 12 := by omega
          clear hn
          have hp0 : (0 : Int) ≤ (p : Int) := by omega
          have hpd : (p : Int) < 4 := by omega
          have hn0 : (0 : Int) ≤ (n : Int) := by omega
          have hn1 : (n : Int) < 12 := by omega
          have hsA := sizeM A
          have hsB := sizeM B
          have hu := Try.underlying25
          obtain ⟨l, hl⟩ : ∃ l, l = pairL A r p := ⟨_, rfl⟩
          have HD : Hid (pV A B n = alV A r (colM B p) l ∧ pE A B n = alE A r (colM B p) l) := Lib.hid (by rw [HN.out, hl]; exact ⟨pV_at A B hp, pE_at A B hp⟩)
          by_cases h3 : p = 3
          · subst h3
            have hl' : l = A n := by rw [hl, HN.out]; rfl
            clear hl
            have cm := Blk.at12 HA.out hn12
            rw [← hl'] at cm
            clear hl'
            go_wp2_with fail
            refine (at3_of r n _ hr HN.out).mono ?_
            rintro e w1 ⟨rfl, rfl⟩
            go_wp2
            clear cm
            refine wp_region_held_drew (S := fun w' => w'.rangeAt w.heap.size 0 [.int .i64 (A 0), .int .i64 (A 1), .int .i64 (A 2), .int .i64 (A 3), .int .i64 (A 4), .int .i64 (A 5), .int .i64 (A 6), .int .i64 (A 7), .int .i64 (A 8), .int .i64 (A 9), .int .i64 (A 10), .int .i64 (A 11)] ∧ w'.rangeAt (w.heap.size + 1) 0 [.int .i64 (B 0), .int .i64 (B 1), .int .i64 (B 2), .int .i64 (B 3), .int .i64 (B 4), .int .i64 (B 5), .int .i64 (B 6), .int .i64 (B 7), .int .i64 (B 8), .int .i64 (B 9), .int .i64 (B 10), .int .i64 (B 11)]) (by kernel_rfl) (range2 (Blk.drew HA.out) (Blk.drew HBm.out)) (fun hHeld => ?_)
            refine wpAnyH_take (i := 0) (v := _) rfl (by kernel_rfl) (by kernel_rfl) (by kernel_rfl) (fun _ _ _ h => h) (yieldsIf_load_mid (by rfl) _ _ rfl _ _ rfl _ _ (fun _ h => h.1) hu rfl hsA) hHeld ?_
            simp only [Act.put, List.getElem_toArray, List.getElem_cons_zero, List.setIfInBounds_toArray, List.set_cons_zero, List.set_cons_succ]
            refine wpAnyH_take (i := 1) (v := ?_) rfl (by kernel_rfl) (by kernel_rfl) (by kernel_rfl) (fun _ _ _ h => h) (Or.inl ⟨by rfl, ?_⟩) hHeld ?_
            rotate_left
            · intro w hSw
              go_simp
              with_reducible rfl
            simp only [Act.put, List.getElem_toArray, List.getElem_cons_zero, List.getElem_cons_succ, List.setIfInBounds_toArray, List.set_cons_zero, List.set_cons_succ]
            refine wpAnyH_take (i := 2) (v := _) rfl (by kernel_rfl) (by kernel_rfl) (by kernel_rfl) (fun _ _ _ h => h) (yieldsIf_load_mid (by rfl) _ _ rfl _ _ rfl _ _ (fun _ h => h.2) hu rfl hsB) hHeld ?_
            simp only [Act.put, List.getElem_toArray, List.getElem_cons_zero, List.getElem_cons_succ, List.setIfInBounds_toArray, List.set_cons_zero, List.set_cons_succ]
            refine wpAnyH_take (i := 3) (v := ?_) rfl (by kernel_rfl) (by kernel_rfl) (by kernel_rfl) (fun _ _ _ h => h) (Or.inl ⟨by rfl, ?_⟩) hHeld ?_
            rotate_left
            · intro w hSw
              go_simp
              with_reducible rfl
            simp only [Act.put, List.getElem_toArray, List.getElem_cons_zero, List.getElem_cons_succ, List.setIfInBounds_toArray, List.set_cons_zero, List.set_cons_succ]
            refine wpAnyH_take (i := 5) (v := ?_) rfl (by kernel_rfl) (by kernel_rfl) (by kernel_rfl) (fun _ _ _ h => h) (Or.inl ⟨by rfl, ?_⟩) hHeld ?_
            rotate_left
            · intro w hSw
              go_simp
              with_reducible rfl
            simp only [Act.put, List.getElem_toArray, List.getElem_cons_zero, List.getElem_cons_succ, List.setIfInBounds_toArray, List.set_cons_zero, List.set_cons_succ]
            refine wpAnyH_ready (rs := [4]) (by kernel_rfl) (by simp) ?_
            refine AllReadyH.cons rfl (fun K hK => ?_) AllReadyH.nil
            go_simp
            go_at_call 32
            refine (column_3 B _).mono ?_
            rintro e w2 ⟨rfl, b2⟩
            go_wp2_with fail
            refine hK.out _ _ (range2 (Blk.keep HA.out (bdrew b2)) (Blk.keep HBm.out (bdrew b2))) (fun hHeld => ?_)
            clear hK K
            refine wpAnyH_ready (rs := [6]) (by kernel_rfl) (by simp) ?_
            refine AllReadyH.cons rfl (fun K hK => ?_) AllReadyH.nil
            go_simp
            go_at_call 27
            refine (along_any A r (colM B 3) l _ hr).mono ?_
            rintro e w3 ⟨rfl, b3⟩
            go_wp2_with fail
            refine hK.out _ _ (range2 (Blk.keep (Blk.keep HA.out (bdrew b2)) b3) (Blk.keep (Blk.keep HBm.out (bdrew b2)) b3)) (fun hHeld => ?_)
            clear hK K
            refine wpAnyH_take (i := 7) (v := ?_) rfl (by kernel_rfl) (by kernel_rfl) (by kernel_rfl) (fun _ _ _ h => h) (Or.inl ⟨by rfl, ?_⟩) hHeld ?_
            rotate_left
            · intro w hSw
              go_simp
              with_reducible rfl
            simp only [Act.put, List.getElem_toArray, List.getElem_cons_zero, List.getElem_cons_succ, List.setIfInBounds_toArray, List.set_cons_zero, List.set_cons_succ]
            refine wpAnyH_take (i := 8) (v := ?_) rfl (by kernel_rfl) (by kernel_rfl) (by kernel_rfl) (fun _ _ _ h => h) (Or.inl ⟨by rfl, ?_⟩) hHeld ?_
            rotate_left
            · intro w hSw
              go_simp
              with_reducible rfl
            simp only [Act.put, List.getElem_toArray, List.getElem_cons_zero, List.getElem_cons_succ, List.setIfInBounds_toArray, List.set_cons_zero, List.set_cons_succ]
            refine wpAnyH_take (i := 9) (v := ?_) rfl (by kernel_rfl) (by kernel_rfl) (by kernel_rfl) (fun _ _ _ h => h) (Or.inl ⟨by rfl, ?_⟩) hHeld ?_
            rotate_left
            · intro w hSw
              go_simp
              with_reducible rfl
            simp only [Act.put, List.getElem_toArray, List.getElem_cons_zero, List.getElem_cons_succ, List.setIfInBounds_toArray, List.set_cons_zero, List.set_cons_succ]
            refine wpAnyH_take (i := 10) (v := ?_) rfl (by kernel_rfl) (by kernel_rfl) (by kernel_rfl) (fun _ _ _ h => h) (Or.inl ⟨by rfl, ?_⟩) hHeld ?_
            rotate_left
            · intro w hSw
              go_simp
              with_reducible rfl
            simp only [Act.put, List.getElem_toArray, List.getElem_cons_zero, List.getElem_cons_succ, List.setIfInBounds_toArray, List.set_cons_zero, List.set_cons_succ]
            refine wpAnyH_take (i := 11) (v := ?_) rfl (by kernel_rfl) (by kernel_rfl) (by kernel_rfl) (fun _ _ _ h => h) (Or.inl ⟨by rfl, ?_⟩) hHeld ?_
            rotate_left
            · intro w hSw
              go_simp
              with_reducible rfl
            simp only [Act.put, List.getElem_toArray, List.getElem_cons_zero, List.getElem_cons_succ, List.setIfInBounds_toArray, List.set_cons_zero, List.set_cons_succ]
            refine wpAnyH_done (by kernel_rfl) ?_ _
            have B3 := Lib.hid (bthen (bdrew b2) b3)
            clear hHeld
            clear b2 b3
            have HRow2 := Lib.hid (HRow.out.of_block (B3.out.block _ HRow.out.lt))
            have HA2 := Lib.hid (Blk.keep HA.out B3.out)
            have HBm2 := Lib.hid (Blk.keep HBm.out B3.out)
            have HRes2 := Lib.hid (Blk.keep HRes.out B3.out)
            have HB2 := Lib.hid (bthen HB.out B3.out)
            clear B3 HRow HA HBm HRes HB
            obtain ⟨x, hx⟩ : ∃ x, x = alV A r (colM B 3) l := ⟨_, rfl⟩
            obtain ⟨y, hy⟩ : ∃ y, y = alE A r (colM B 3) l := ⟨_, rfl⟩
            rw [← hx, ← hy] at HD
            rw [← hx, ← hy]
            clear hx hy
            by_cases he : y = 0
            · have HEk := Lib.hid he
              have he' : (y != 0) = false := by rw [he]; rfl
              clear he
              have rc := HRow2.out.cell (i := n) (by omega)
              have rf := HRow2.out.frozen n
              have hnn : ¬ (n < 4 * r + 3) := by have := HN.out; omega
              unfold laidTo at rc
              rw [if_neg hnn] at rc
              clear hnn
              go_wp2_with fail
              refine (at3_of r n _ hr HN.out).mono ?_
              rintro e w4 ⟨rfl, rfl⟩
              go_wp2
              go_roundw
              case rel => exact ⟨3 + 1, by omega, by go_num, by rw [show 4 * r + (3 + 1) = n + 1 by have := HN.out; omega]; exact err_step (by rw [HN.out]; exact HZ.out) (by rw [HD.out.2]; exact HEk.out), (HRow2.out.set n _).congr (fun i _ => by rw [← HD.out.1, show 4 * r + (3 + 1) = n + 1 by have := HN.out; omega, show 4 * r + 3 = n from HN.out.symm]; exact laid_step _ n i), HA2.out.far (by simp <;> omega) _, HBm2.out.far (by simp <;> omega) _, HRes2.out.far (by simp) _, HB2.out.setCell (by simp <;> omega) _⟩
              case measure => simp [intOf] <;> omega
            · have HEk := Lib.hid he
              have he' : (y != 0) = true := by simpa using he
              clear he HRow2 HA2 HBm2
              obtain ⟨c0, c1, c2, c3, c4, c5, c6, c7, c8, c9, c10, c11, f0, f1, f2, f3, f4, f5, f6, f7, f8, f9, f10, f11⟩ := blk12 HRes2.out
              go_wp2
              have e1 : prodE2 A B = y := by
                rw [← HD.out.2]
                exact firstN_at (e := pE A B) (by rw [HN.out]; exact HZ.out) (by rw [HD.out.2]; exact HEk.out) hn12
              have e2 : prodE2 A B ≠ 0 := by rw [e1]; exact HEk.out
              exact bodyPost_ret (v := .tuple #[.agg #[.int .i64 0, .int .i64 0, .int .i64 0, .int .i64 0, .int .i64 0, .int .i64 0, .int .i64 0, .int .i64 0, .int .i64 0, .int .i64 0, .int .i64 0, .int .i64 0], .int .i64 y]) (by simp [results, Try.results24, go_sem, c0, c1, c2, c3, c4, c5, c6, c7, c8, c9, c10, c11]) rfl ⟨by rw [prod_no e2 0, prod_no e2 1, prod_no e2 2, prod_no e2 3, prod_no e2 4, prod_no e2 5, prod_no e2 6, prod_no e2 7, prod_no e2 8, prod_no e2 9, prod_no e2 10, prod_no e2 11, e1], bset12 HB2.out (by omega)⟩
          · have hl' : l = 0 := by rw [hl]; unfold pairL; rw [if_neg h3]
            clear hl
            subst hl'
            have hd1 : ((p : Int) == 3) = false := by simp; omega
            have hd2 : decide ((p : Int) = 3) = false := by simp; omega
            go_wp2
            refine wp_region_held_drew (S := fun w' => w'.rangeAt w.heap.size 0 [.int .i64 (A 0), .int .i64 (A 1), .int .i64 (A 2), .int .i64 (A 3), .int .i64 (A 4), .int .i64 (A 5), .int .i64 (A 6), .int .i64 (A 7), .int .i64 (A 8), .int .i64 (A 9), .int .i64 (A 10), .int .i64 (A 11)] ∧ w'.rangeAt (w.heap.size + 1) 0 [.int .i64 (B 0), .int .i64 (B 1), .int .i64 (B 2), .int .i64 (B 3), .int .i64 (B 4), .int .i64 (B 5), .int .i64 (B 6), .int .i64 (B 7), .int .i64 (B 8), .int .i64 (B 9), .int .i64 (B 10), .int .i64 (B 11)]) (by kernel_rfl) (range2 (Blk.drew HA.out) (Blk.drew HBm.out)) (fun hHeld => ?_)
            refine wpAnyH_take (i := 0) (v := _) rfl (by kernel_rfl) (by kernel_rfl) (by kernel_rfl) (fun _ _ _ h => h) (yieldsIf_load_mid (by rfl) _ _ rfl _ _ rfl _ _ (fun _ h => h.1) hu rfl hsA) hHeld ?_
            simp only [Act.put, List.getElem_toArray, List.getElem_cons_zero, List.setIfInBounds_toArray, List.set_cons_zero, List.set_cons_succ]
            refine wpAnyH_take (i := 1) (v := ?_) rfl (by kernel_rfl) (by kernel_rfl) (by kernel_rfl) (fun _ _ _ h => h) (Or.inl ⟨by rfl, ?_⟩) hHeld ?_
            rotate_left
            · intro w hSw
              go_simp
              with_reducible rfl
            simp only [Act.put, List.getElem_toArray, List.getElem_cons_zero, List.getElem_cons_succ, List.setIfInBounds_toArray, List.set_cons_zero, List.set_cons_succ]
            refine wpAnyH_take (i := 2) (v := _) rfl (by kernel_rfl) (by kernel_rfl) (by kernel_rfl) (fun _ _ _ h => h) (yieldsIf_load_mid (by rfl) _ _ rfl _ _ rfl _ _ (fun _ h => h.2) hu rfl hsB) hHeld ?_
            simp only [Act.put, List.getElem_toArray, List.getElem_cons_zero, List.getElem_cons_succ, List.setIfInBounds_toArray, List.set_cons_zero, List.set_cons_succ]
            refine wpAnyH_take (i := 3) (v := ?_) rfl (by kernel_rfl) (by kernel_rfl) (by kernel_rfl) (fun _ _ _ h => h) (Or.inl ⟨by rfl, ?_⟩) hHeld ?_
            rotate_left
            · intro w hSw
              go_simp
              with_reducible rfl
            simp only [Act.put, List.getElem_toArray, List.getElem_cons_zero, List.getElem_cons_succ, List.setIfInBounds_toArray, List.set_cons_zero, List.set_cons_succ]
            refine wpAnyH_take (i := 5) (v := ?_) rfl (by kernel_rfl) (by kernel_rfl) (by kernel_rfl) (fun _ _ _ h => h) (Or.inl ⟨by rfl, ?_⟩) hHeld ?_
            rotate_left
            · intro w hSw
              go_simp
              with_reducible rfl
            simp only [Act.put, List.getElem_toArray, List.getElem_cons_zero, List.getElem_cons_succ, List.setIfInBounds_toArray, List.set_cons_zero, List.set_cons_succ]
            refine wpAnyH_ready (rs := [4]) (by kernel_rfl) (by simp) ?_
            refine AllReadyH.cons rfl (fun K hK => ?_) AllReadyH.nil
            go_simp
            go_at_call 32
            refine (column_any B p _ hp).mono ?_
            rintro e w2 ⟨rfl, b2⟩
            go_wp2_with fail
            refine hK.out _ _ (range2 (Blk.keep HA.out (bdrew b2)) (Blk.keep HBm.out (bdrew b2))) (fun hHeld => ?_)
            clear hK K
            refine wpAnyH_ready (rs := [6]) (by kernel_rfl) (by simp) ?_
            refine AllReadyH.cons rfl (fun K hK => ?_) AllReadyH.nil
            go_simp
            go_at_call 27
            refine (along_any A r (colM B p) 0 _ hr).mono ?_
            rintro e w3 ⟨rfl, b3⟩
            go_wp2_with fail
            refine hK.out _ _ (range2 (Blk.keep (Blk.keep HA.out (bdrew b2)) b3) (Blk.keep (Blk.keep HBm.out (bdrew b2)) b3)) (fun hHeld => ?_)
            clear hK K
            refine wpAnyH_take (i := 7) (v := ?_) rfl (by kernel_rfl) (by kernel_rfl) (by kernel_rfl) (fun _ _ _ h => h) (Or.inl ⟨by rfl, ?_⟩) hHeld ?_
            rotate_left
            · intro w hSw
              go_simp
              with_reducible rfl
            simp only [Act.put, List.getElem_toArray, List.getElem_cons_zero, List.getElem_cons_succ, List.setIfInBounds_toArray, List.set_cons_zero, List.set_cons_succ]
            refine wpAnyH_take (i := 8) (v := ?_) rfl (by kernel_rfl) (by kernel_rfl) (by kernel_rfl) (fun _ _ _ h => h) (Or.inl ⟨by rfl, ?_⟩) hHeld ?_
            rotate_left
            · intro w hSw
              go_simp
              with_reducible rfl
            simp only [Act.put, List.getElem_toArray, List.getElem_cons_zero, List.getElem_cons_succ, List.setIfInBounds_toArray, List.set_cons_zero, List.set_cons_succ]
            refine wpAnyH_take (i := 9) (v := ?_) rfl (by kernel_rfl) (by kernel_rfl) (by kernel_rfl) (fun _ _ _ h => h) (Or.inl ⟨by rfl, ?_⟩) hHeld ?_
            rotate_left
            · intro w hSw
              go_simp
              with_reducible rfl
            simp only [Act.put, List.getElem_toArray, List.getElem_cons_zero, List.getElem_cons_succ, List.setIfInBounds_toArray, List.set_cons_zero, List.set_cons_succ]
            refine wpAnyH_take (i := 10) (v := ?_) rfl (by kernel_rfl) (by kernel_rfl) (by kernel_rfl) (fun _ _ _ h => h) (Or.inl ⟨by rfl, ?_⟩) hHeld ?_
            rotate_left
            · intro w hSw
              go_simp
              with_reducible rfl
            simp only [Act.put, List.getElem_toArray, List.getElem_cons_zero, List.getElem_cons_succ, List.setIfInBounds_toArray, List.set_cons_zero, List.set_cons_succ]
            refine wpAnyH_take (i := 11) (v := ?_) rfl (by kernel_rfl) (by kernel_rfl) (by kernel_rfl) (fun _ _ _ h => h) (Or.inl ⟨by rfl, ?_⟩) hHeld ?_
            rotate_left
            · intro w hSw
              go_simp
              with_reducible rfl
            simp only [Act.put, List.getElem_toArray, List.getElem_cons_zero, List.getElem_cons_succ, List.setIfInBounds_toArray, List.set_cons_zero, List.set_cons_succ]
            refine wpAnyH_done (by kernel_rfl) ?_ _
            have B3 := Lib.hid (bthen (bdrew b2) b3)
            clear hHeld
            clear b2 b3
            have HRow2 := Lib.hid (HRow.out.of_block (B3.out.block _ HRow.out.lt))
            have HA2 := Lib.hid (Blk.keep HA.out B3.out)
            have HBm2 := Lib.hid (Blk.keep HBm.out B3.out)
            have HRes2 := Lib.hid (Blk.keep HRes.out B3.out)
            have HB2 := Lib.hid (bthen HB.out B3.out)
            clear B3 HRow HA HBm HRes HB
            obtain ⟨x, hx⟩ : ∃ x, x = alV A r (colM B p) 0 := ⟨_, rfl⟩
            obtain ⟨y, hy⟩ : ∃ y, y = alE A r (colM B p) 0 := ⟨_, rfl⟩
            rw [← hx, ← hy] at HD
            rw [← hx, ← hy]
            clear hx hy
            by_cases he : y = 0
            · have HEk := Lib.hid he
              have he' : (y != 0) = false := by rw [he]; rfl
              clear he
              have rc := HRow2.out.cell (i := n) (by omega)
              have rf := HRow2.out.frozen n
              have hnn : ¬ (n < 4 * r + p) := by have := HN.out; omega
              unfold laidTo at rc
              rw [if_neg hnn] at rc
              clear hnn
              go_wp2_with fail
              refine (at_of r p n _ hr hp HN.out).mono ?_
              rintro e w4 ⟨rfl, rfl⟩
              go_wp2
              go_roundw
              case rel => exact ⟨p + 1, by omega, by go_num, by rw [show 4 * r + (p + 1) = n + 1 by have := HN.out; omega]; exact err_step (by rw [HN.out]; exact HZ.out) (by rw [HD.out.2]; exact HEk.out), (HRow2.out.set n _).congr (fun i _ => by rw [← HD.out.1, show 4 * r + (p + 1) = n + 1 by have := HN.out; omega, show 4 * r + p = n from HN.out.symm]; exact laid_step _ n i), HA2.out.far (by simp <;> omega) _, HBm2.out.far (by simp <;> omega) _, HRes2.out.far (by simp) _, HB2.out.setCell (by simp <;> omega) _⟩
              case measure => simp [intOf] <;> omega
            · have HEk := Lib.hid he
              have he' : (y != 0) = true := by simpa using he
              clear he HRow2 HA2 HBm2
              obtain ⟨c0, c1, c2, c3, c4, c5, c6, c7, c8, c9, c10, c11, f0, f1, f2, f3, f4, f5, f6, f7, f8, f9, f10, f11⟩ := blk12 HRes2.out
              go_wp2
              have e1 : prodE2 A B = y := by
                rw [← HD.out.2]
                exact firstN_at (e := pE A B) (by rw [HN.out]; exact HZ.out) (by rw [HD.out.2]; exact HEk.out) hn12
              have e2 : prodE2 A B ≠ 0 := by rw [e1]; exact HEk.out
              exact bodyPost_ret (v := .tuple #[.agg #[.int .i64 0, .int .i64 0, .int .i64 0, .int .i64 0, .int .i64 0, .int .i64 0, .int .i64 0, .int .i64 0, .int .i64 0, .int .i64 0, .int .i64 0, .int .i64 0], .int .i64 y]) (by simp [results, Try.results24, go_sem, c0, c1, c2, c3, c4, c5, c6, c7, c8, c9, c10, c11]) rfl ⟨by rw [prod_no e2 0, prod_no e2 1, prod_no e2 2, prod_no e2 3, prod_no e2 4, prod_no e2 5, prod_no e2 6, prod_no e2 7, prod_no e2 8, prod_no e2 9, prod_no e2 10, prod_no e2 11, e1], bset12 HB2.out (by omega)⟩
        · obtain rfl : p = 4 := by omega
          go_wp2
          go_roundw
          case rel => exact ⟨r + 1, by omega, by go_num, HZ.out, HRow.out, HA.out, HBm.out, HRes.out, HB.out⟩
          case measure => simp [intOf] <;> omega
    · obtain rfl : r = 3 := by omega
      have hE : prodE2 A B = 0 := firstN_none HZ.out
      have HE := Lib.hid hE
      clear hE
      have hm : Blk wr (w.heap.size + 3) 25 #[.int .i64 (pV A B 0), .int .i64 (pV A B 1), .int .i64 (pV A B 2), .int .i64 (pV A B 3), .int .i64 (pV A B 4), .int .i64 (pV A B 5), .int .i64 (pV A B 6), .int .i64 (pV A B 7), .int .i64 (pV A B 8), .int .i64 (pV A B 9), .int .i64 (pV A B 10), .int .i64 (pV A B 11)] := blk_of_row HRow.out
      clear HZ HRow HA HBm
      obtain ⟨o0, o1, o2, o3, o4, o5, o6, o7, o8, o9, o10, o11, _, _, _, _, _, _, _, _, _, _, _, _⟩ := blk12 hm
      obtain ⟨c0, c1, c2, c3, c4, c5, c6, c7, c8, c9, c10, c11, f0, f1, f2, f3, f4, f5, f6, f7, f8, f9, f10, f11⟩ := blk12 HRes.out
      clear hm
      go_wp2
      exact bodyPost_ret (v := .tuple #[.agg #[.int .i64 (pV A B 0), .int .i64 (pV A B 1), .int .i64 (pV A B 2), .int .i64 (pV A B 3), .int .i64 (pV A B 4), .int .i64 (pV A B 5), .int .i64 (pV A B 6), .int .i64 (pV A B 7), .int .i64 (pV A B 8), .int .i64 (pV A B 9), .int .i64 (pV A B 10), .int .i64 (pV A B 11)], .int .i64 0]) (by simp [results, Try.results24, go_sem, c0, c1, c2, c3, c4, c5, c6, c7, c8, c9, c10, c11]) rfl ⟨by rw [prod_ok HE.out 0, prod_ok HE.out 1, prod_ok HE.out 2, prod_ok HE.out 3, prod_ok HE.out 4, prod_ok HE.out 5, prod_ok HE.out 6, prod_ok HE.out 7, prod_ok HE.out 8, prod_ok HE.out 9, prod_ok HE.out 10, prod_ok HE.out 11, HE.out], bset12 HB.out (by omega)⟩

end Go.Proofs.Ytjdoneacbnalaaa
