/-
  The reference's pool inside a bigger block: what its Live, Take, Drop and All answer.
-/
import Derived.Test.YtcpgkkphibhdfaaGreatStoE
namespace Go.Proofs.YtcpgkkphibhdfaaGreat
open Go.RowKit

/-- the cells of a block that begins with a pool -/
def poolX (E : Nat → Value) (R : Int) (G : Nat → Int) (L : Nat → Bool) (j : Nat) : Value := if j < 513 then poolF R G L j else E j
section
variable {w : World} {g : Nat} {t : TypeId} {N : Nat} {E : Nat → Value} {R : Int} {G : Nat → Int} {L : Nat → Bool} {k : Nat}
theorem pool_room8 (hN : 513 ≤ N) (h : w.rowIs g t N (poolX E R G L)) : w.cell? ⟨g, 0, none⟩ = some (.int .i64 R) := h.cell (i := 0) (by omega)
theorem pool_gen8 (hN : 513 ≤ N) (h : w.rowIs g t N (poolX E R G L)) (hk : k < 256) : w.cell? ⟨g, 1 + k, none⟩ = some (.int .i64 (G k)) := by
  rw [h.cell (i := 1 + k) (by omega)]
  unfold poolX poolF
  rw [if_pos (by omega), if_neg (by omega), if_pos (by omega), show 1 + k - 1 = k by omega]
theorem pool_live8 (hN : 513 ≤ N) (h : w.rowIs g t N (poolX E R G L)) (hk : k < 256) : w.cell? ⟨g, 257 + k, none⟩ = some (.bool (L k)) := by
  rw [h.cell (i := 257 + k) (by omega)]
  unfold poolX poolF
  rw [if_pos (by omega), if_neg (by omega), if_neg (by omega), show 257 + k - 257 = k by omega]
theorem pool_setL8 (_hN : 513 ≤ N) (h : w.rowIs g t N (poolX E R G L)) (hk : k < 256) (b : Bool) : (w.setCell ⟨g, 257 + k, none⟩ (.bool b)).rowIs g t N (poolX E R G (upd L k b)) :=
  (h.set (257 + k) (.bool b)).congr fun i hi => by
    unfold poolX poolF upd
    by_cases e : i = 257 + k
    · rw [if_pos e, if_pos (by omega), if_neg (by omega), if_neg (by omega), if_pos (by omega)]
    · rw [if_neg e]
      by_cases ee : i < 513
      · rw [if_pos ee, if_pos ee]
        by_cases e0 : i = 0
        · rw [if_pos e0, if_pos e0]
        · rw [if_neg e0, if_neg e0]
          by_cases e1 : i < 257
          · rw [if_pos e1, if_pos e1]
          · rw [if_neg e1, if_neg e1, if_neg (by omega)]
      · rw [if_neg ee, if_neg ee]
theorem pool_setG8 (_hN : 513 ≤ N) (h : w.rowIs g t N (poolX E R G L)) (hk : k < 256) (x : Int) : (w.setCell ⟨g, 1 + k, none⟩ (.int .i64 x)).rowIs g t N (poolX E R (upd G k x) L) :=
  (h.set (1 + k) (.int .i64 x)).congr fun i hi => by
    unfold poolX poolF upd
    by_cases e : i = 1 + k
    · rw [if_pos e, if_pos (by omega), if_neg (by omega), if_pos (by omega), if_pos (by omega)]
    · rw [if_neg e]
      by_cases ee : i < 513
      · rw [if_pos ee, if_pos ee]
        by_cases e0 : i = 0
        · rw [if_pos e0, if_pos e0]
        · rw [if_neg e0, if_neg e0]
          by_cases e1 : i < 257
          · rw [if_pos e1, if_pos e1, if_neg (by omega)]
          · rw [if_neg e1, if_neg e1]
      · rw [if_neg ee, if_neg ee]
end

set_option maxHeartbeats 1000000 in
set_option maxRecDepth 100000 in
theorem plive8 {t : TypeId} {N : Nat} {E : Nat → Value} (hN : 513 ≤ N) (g : Nat) (R : Int) (G : Nat → Int) (L : Nat → Bool) (x : Int) (w : World) (row : w.rowIs g t N (poolX E R G L)) :
    Calls Tryz.prog 63 #[.pointer (some ⟨g, 0, none⟩), .int .i64 x] w fun e w' => e = .returned (.bool (liveB G L x)) ∧ w = w' := by
  by_cases ho : idOk x = true
  · obtain ⟨i, q, hi, hq, hx, ht, hd⟩ := id_parts ho
    have HO := Lib.hid ho
    rw [show liveB G L x = (L i && decide (G i = (q : Int))) by rw [hx]; exact live_of hi hq]
    clear ho hx
    have cl := pool_live8 hN row hi
    have cg := pool_gen8 hN row hi
    clear row
    have hi0 : (0 : Int) ≤ (i : Int) := by omega
    have hi1 : (i : Int) < 256 := by omega
    obtain ⟨b, hb⟩ : ∃ b, b = L i := ⟨_, rfl⟩
    obtain ⟨y, hy⟩ : ∃ y, y = G i := ⟨_, rfl⟩
    rw [← hb] at cl
    rw [← hy] at cg
    rw [← hb, ← hy]
    clear hb hy
    cases b
    · go_enter Tryz.func63, Tryz.ntmps63
      go_wp2_with fail
      refine (plright_b HO.out _).mono ?_
      rintro e w1 ⟨rfl, rfl⟩
      go_wp2
      go_ret
      exact ⟨rfl, rfl⟩
    · go_enter Tryz.func63, Tryz.ntmps63
      go_wp2_with fail
      refine (plright_b HO.out _).mono ?_
      rintro e w1 ⟨rfl, rfl⟩
      go_wp2
      go_ret
      exact ⟨by simp; rfl, rfl⟩
  · have ho' : idOk x = false := by simpa using ho
    rw [live_no ho']
    have HO := Lib.hid ho'
    clear ho ho'
    go_enter Tryz.func63, Tryz.ntmps63
    go_wp2_with fail
    refine (plright_b HO.out _).mono ?_
    rintro e w1 ⟨rfl, rfl⟩
    go_wp2
    go_ret
    exact ⟨rfl, rfl⟩

set_option maxHeartbeats 1000000 in
set_option maxRecDepth 100000 in
theorem ptake8 {t : TypeId} {N : Nat} {E : Nat → Value} (hN : 513 ≤ N) (g R : Nat) (G : Nat → Int) (L : Nat → Bool) (w : World) (hR : R ≤ 256) (hG : GenOk G) (row : w.rowIs g t N (poolX E R G L)) :
    Calls Tryz.prog 66 #[.pointer (some ⟨g, 0, none⟩)] w fun e w' => e = .returned (.tuple #[.int .i64 (tkV G L R), .int .i64 (tkE G L R)]) ∧ w'.rowIs g t N (poolX E R G (tkL G L R)) ∧ w.grownBy w' (some g) := by
  have HRow := Lib.hid row
  have HG := Lib.hid hG
  have cr := pool_room8 hN row
  clear row hG
  go_enter Tryz.func66, Tryz.ntmps66
  go_wp2
  go_loopw [4] (fun i wr => ∃ k : Nat, k ≤ R ∧ i = .int .i64 k ∧ (∀ j, j < k → freeB G L j = false) ∧ wr = w) (fun i _ => R - (intOf i).toNat)
  case atStart => exact ⟨0, by omega, rfl, fun j hj => by omega, rfl⟩
  case round =>
    obtain ⟨k, hk, rfl, hz, rfl⟩ := hrel
    have HZ := Lib.hid hz
    clear hz
    by_cases hlt : k < R
    · have cl := pool_live8 hN HRow.out (k := k) (by omega)
      have cg := pool_gen8 hN HRow.out (k := k) (by omega)
      have fl := HRow.out.frozen (257 + k)
      have hk0 : (0 : Int) ≤ (k : Int) := by omega
      have hk1 : (k : Int) < 256 := by omega
      have hkR : (k : Int) < (R : Int) := by omega
      obtain ⟨b, hb⟩ : ∃ b, b = L k := ⟨_, rfl⟩
      obtain ⟨y, hy⟩ : ∃ y, y = G k := ⟨_, rfl⟩
      have hyb := HG.out k (by omega)
      rw [← hb] at cl
      rw [← hy] at cg hyb
      have HF : Hid (freeB G L k = (!b && decide (y ≤ 65535))) := Lib.hid (by unfold freeB; rw [hb, hy])
      have HY := Lib.hid hy
      clear hb hy
      cases b
      · by_cases hy : y ≤ 65535
        · have hw1 : IntKind.i64.wrap (256 * y) = 256 * y := IntWalk.i64_in _ (by omega)
          have hw2 : IntKind.i64.wrap (256 * y + (k : Int)) = 256 * y + (k : Int) := IntWalk.i64_in _ (by omega)
          have hgl : 1 + k ≠ 257 + k := by omega
          go_wp2
          go_ret2
          have e1 : tkI G L R = some k := tk_some hlt HZ.out (by rw [HF.out]; simpa using hy)
          have ev : tkV G L R = 256 * y + (k : Int) := by unfold tkV; rw [e1, HY.out]; rfl
          have ee : tkE G L R = 0 := by unfold tkE; rw [e1]
          refine ⟨by rw [ev, ee]; rfl, ?_, grown_set _ _ _ _⟩
          unfold tkL
          rw [e1]
          exact pool_setL8 hN HRow.out (by omega) true
        · have HZ2 := Lib.hid (free_step HZ.out (by rw [HF.out]; simpa using hy))
          go_wp2
          go_roundw
          case rel => exact ⟨k + 1, by omega, by go_num, HZ2.out, by trivial⟩
          case measure => simp [intOf] <;> omega
      · have HZ2 := Lib.hid (free_step HZ.out (by rw [HF.out]; rfl))
        go_wp2
        go_roundw
        case rel => exact ⟨k + 1, by omega, by go_num, HZ2.out, by trivial⟩
        case measure => simp [intOf] <;> omega
    · obtain rfl : k = R := by omega
      have e1 : tkI G L k = none := tk_none HZ.out
      have HE := Lib.hid e1
      clear e1
      go_wp2
      go_ret2
      have ev : tkV G L k = 0 := by unfold tkV; rw [HE.out]
      have ee : tkE G L k = 3 := by unfold tkE; rw [HE.out]
      have el : tkL G L k = L := by unfold tkL; rw [HE.out]
      exact ⟨by rw [ev, ee]; rfl, by rw [el]; exact HRow.out, World.grownBy.refl _ _⟩

set_option maxHeartbeats 1000000 in
set_option maxRecDepth 100000 in
theorem pdrop8 {t : TypeId} {N : Nat} {E : Nat → Value} (hN : 513 ≤ N) (g : Nat) (R : Int) (G : Nat → Int) (L : Nat → Bool) (x : Int) (w : World) (hG : GenOk G) (row : w.rowIs g t N (poolX E R G L)) :
    Calls Tryz.prog 59 #[.pointer (some ⟨g, 0, none⟩), .int .i64 x] w fun e w' => e = .returned (.bool (liveB G L x)) ∧ w'.rowIs g t N (poolX E R (drG G L x) (drL G L x)) ∧ w.grownBy w' (some g) := by
  have HRow := Lib.hid row
  clear row
  by_cases ho : liveB G L x = true
  · have hid : idOk x = true := by
      by_cases c : idOk x = true
      · exact c
      · rw [live_no (by simpa using c)] at ho; cases ho
    obtain ⟨i, q, hi, hq, hx, ht, hd⟩ := id_parts hid
    have hdL : drL G L x = upd L i false := by unfold drL; rw [if_pos ho, show (x % 256).toNat = i by omega]
    have hdG : drG G L x = upd G i (G i + 1) := by unfold drG; rw [if_pos ho, show (x % 256).toNat = i by omega]
    rw [hdL, hdG, ho]
    have HO : Hid (∀ w', w'.rowIs g t N (poolX E R G L) → Calls Tryz.prog 63 #[.pointer (some ⟨g, 0, none⟩), .int .i64 x] w' fun e w'' => e = .returned (.bool true) ∧ w' = w'') :=
      Lib.hid (fun w' hr => (plive8 hN g R G L x w' hr).mono fun _ _ ⟨he, hw⟩ => ⟨by rw [he, ho], hw⟩)
    have hyb := hG i hi
    clear hG ho hid hx hd hdL hdG
    have cl := pool_live8 hN HRow.out hi
    have fl := HRow.out.frozen (257 + i)
    have HRow2 := Lib.hid (pool_setL8 hN HRow.out hi false)
    have cg := pool_gen8 hN HRow2.out hi
    have fg := HRow2.out.frozen (1 + i)
    have hi0 : (0 : Int) ≤ (i : Int) := by omega
    have hi1 : (i : Int) < 256 := by omega
    obtain ⟨y, hy⟩ : ∃ y, y = G i := ⟨_, rfl⟩
    rw [← hy] at cg hyb
    rw [← hy]
    clear hy
    have hw1 : IntKind.i64.wrap (y + 1) = y + 1 := IntWalk.i64_in _ (by omega)
    go_enter Tryz.func59, Tryz.ntmps59
    go_wp2_with fail
    refine (HO.out _ HRow.out).mono ?_
    rintro e w1 ⟨rfl, rfl⟩
    go_wp2
    go_region
    go_wp2
    go_ret
    exact ⟨rfl, rowIs_drew (pool_setG8 hN HRow2.out hi _), grown_drew (grown_trans (grown_set _ _ _ _) (grown_set _ _ _ _))⟩
  · have ho' : liveB G L x = false := by simpa using ho
    have hdL : drL G L x = L := by unfold drL; rw [if_neg ho]
    have hdG : drG G L x = G := by unfold drG; rw [if_neg ho]
    rw [hdL, hdG, ho']
    have HO : Hid (∀ w', w'.rowIs g t N (poolX E R G L) → Calls Tryz.prog 63 #[.pointer (some ⟨g, 0, none⟩), .int .i64 x] w' fun e w'' => e = .returned (.bool false) ∧ w' = w'') :=
      Lib.hid (fun w' hr => (plive8 hN g R G L x w' hr).mono fun _ _ ⟨he, hw⟩ => ⟨by rw [he, ho'], hw⟩)
    clear ho ho' hG hdL hdG
    go_enter Tryz.func59, Tryz.ntmps59
    go_wp2_with fail
    refine (HO.out _ HRow.out).mono ?_
    rintro e w1 ⟨rfl, rfl⟩
    go_wp2
    go_ret
    exact ⟨rfl, HRow.out, World.grownBy.refl _ _⟩

set_option maxHeartbeats 1000000 in
set_option maxRecDepth 100000 in
theorem pall8 {t : TypeId} {N : Nat} {E : Nat → Value} (hN : 513 ≤ N) (g : Nat) (R : Int) (G : Nat → Int) (L : Nat → Bool) (w : World) (hG : GenOk G) (row : w.rowIs g t N (poolX E R G L)) :
    Calls Tryz.prog 28 #[.pointer (some ⟨g, 0, none⟩)] w fun e w' => ∃ a cap, e = .returned (.slice a (allL G L 256).length cap) ∧ Row w' a (allL G L 256).length (allL G L 256) ∧ Below w.heap.size w w' := by
  have HRow := Lib.hid row
  have HG := Lib.hid hG
  clear row hG
  obtain ⟨i0, hi0, hz0, hz1, hz2⟩ := info_parts id_info
  have HI := Lib.hid (And.intro hi0 (And.intro hz0 (And.intro hz1 hz2)))
  clear hi0 hz0 hz1 hz2
  go_enter Tryz.func28, Tryz.ntmps28
  go_wp2
  go_loopw [3, 4] (fun v i wr => ∃ k : Nat, k ≤ 256 ∧ i = .int .i64 k ∧ OwnD wr w.heap.size v (allL G L k).length (allL G L k) ∧ Below w.heap.size w wr) (fun _ i _ => 256 - (intOf i).toNat)
  case atStart => exact ⟨0, by omega, rfl, OwnD.nil _ _, Below.refl _ _⟩
  case round =>
    obtain ⟨k, hk, rfl, hown, hb⟩ := hrel
    have HOwn := Lib.hid hown
    have HB := Lib.hid hb
    clear hown hb
    have HR2 := Lib.hid (World.rowIs.keep HRow.out HB.out)
    by_cases hlt : k < 256
    · have cl := pool_live8 hN HR2.out hlt
      have cg := pool_gen8 hN HR2.out hlt
      have hk0 : (0 : Int) ≤ (k : Int) := by omega
      have hk1 : (k : Int) < 256 := by omega
      have hyb := HG.out k hlt
      have zg : g < wr.heap.size := HR2.out.lt
      have hle := all_len G L k
      obtain ⟨y, hy⟩ : ∃ y, y = G k := ⟨_, rfl⟩
      rw [← hy] at cg hyb
      have HY := Lib.hid hy
      clear hy
      by_cases hL : L k = true
      · rw [hL] at cl
        have HA := Lib.hid (all_yes (G := G) hL)
        clear hL
        obtain ⟨n, hn⟩ : ∃ n, n = (allL G L k).length := ⟨_, rfl⟩
        rw [← hn] at HOwn hle
        have HN := Lib.hid hn
        clear hn
        have hw1 : IntKind.i64.wrap (256 * y) = 256 * y := IntWalk.i64_in _ (by omega)
        have hw2 : IntKind.i64.wrap (256 * y + (k : Int)) = 256 * y + (k : Int) := IntWalk.i64_in _ (by omega)
        have hsz : w.heap.size ≤ wr.heap.size := HB.out.size
        go_wp2_with (at_builtin; refine wpList_append_own _ rfl (.tmp 15) (.tmp 25) 53 rfl w.heap.size 35 i0 (.int .i64 0) 1 8 Tryz.underlying53 HI.out.1 HI.out.2.1 HI.out.2.2.1 HI.out.2.2.2 rfl (by decide) _ _ _ rfl (HOwn.out.alloc _) ⟨wr.heap.size, 0, none⟩ 1 1 [.int .i64 (256 * y + (k : Int))] rfl rfl (cell_one_new _ _ _) (by intro u hu; simp at hu; subst hu; rfl) (by unfold maxLen; omega) (by omega) (by simp; omega) ?_)
        intro v' w2 hown' hgrow _
        have HOwn' := Lib.hid hown'
        have HGr := Lib.hid hgrow
        clear hown' hgrow
        go_wp2
        go_roundw
        case rel =>
          have el : (allL G L (k + 1)).length = n + 1 := by rw [HA.out, List.length_append, ← HN.out]; rfl
          refine ⟨k + 1, by omega, by go_num, ?_, grownD_below HOwn.out (Nat.le_refl _) HB.out hsz HGr.out⟩
          rw [el]
          unfold OwnD
          rw [HA.out, List.map_append]
          have hv : nm (G k) k = 256 * y + (k : Int) := by rw [HY.out]; rfl
          rw [hv]
          exact HOwn'.out
        case measure => simp [intOf] <;> omega
      · have hL' : L k = false := by simpa using hL
        rw [hL'] at cl
        have HA := Lib.hid (all_no (G := G) hL')
        clear hL hL'
        go_wp2
        go_roundw
        case rel => exact ⟨k + 1, by omega, by go_num, by rw [HA.out]; exact HOwn.out, HB.out⟩
        case measure => simp [intOf] <;> omega
    · obtain rfl : k = 256 := by omega
      obtain ⟨a, cap, rfl, hr⟩ := HOwn.out.row
      have HA := Lib.hid hr
      clear hr
      go_wp2
      go_ret
      exact ⟨a, cap, rfl, HA.out, HB.out⟩

end Go.Proofs.YtcpgkkphibhdfaaGreat
