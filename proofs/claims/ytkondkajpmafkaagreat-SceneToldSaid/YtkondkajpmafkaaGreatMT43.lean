/-
  2 texts in one file, each with its own heading.
-/
import Derived.Test.YtkondkajpmafkaaGreatMT42
import Derived.Test.YtkondkajpmafkaaGreatMT19
/-
  Package pool answers as the bundle says: its pool is one block: the room, the generations, who lives.
-/
namespace Go.Proofs.YtkondkajpmafkaaGreat
open Go.RowKit

set_option maxHeartbeats 400000 in
theorem qnew (R : Nat) (w : World) (hR : R ≤ 256) :
    Calls Tryz.prog 62 #[.int .i64 R] w fun e w' => ∃ g, e = .returned (.tuple #[.pointer (some ⟨g, 0, none⟩), .int .i64 0]) ∧ w.heap.size ≤ g ∧ w'.rowIs g 158 513 (poolF R z0 n0) ∧ Below w.heap.size w w' := by
  have h0 : ¬ ((R : Int) < 0) := by omega
  have h1 : ¬ ((256 : Int) < (R : Int)) := by omega
  have zv := zv_pool
  have zn := zc_ne
  have zs := zc_size
  go_enter Tryz.func62, Tryz.ntmps62
  go_wp2
  go_ret2
  exact ⟨w.heap.size, rfl, Nat.le_refl _, zeros_row zc_list _ _ _, alloc_below _ _⟩
set_option maxHeartbeats 400000 in
theorem qbad (x : Int) (w : World) (hx : x < 0 ∨ 256 < x) :
    Calls Tryz.prog 62 #[.int .i64 x] w fun e w' => e = .returned (.tuple #[.pointer none, .int .i64 1]) ∧ Below w.heap.size w w' := by
  rcases hx with h | h
  all_goals
    go_enter Tryz.func62, Tryz.ntmps62
    go_wp2
    go_ret2
    exact ⟨rfl, Below.refl _ _⟩

set_option maxHeartbeats 400000 in
theorem qright_any (x : Int) (w : World) :
    Calls Tryz.prog 89 #[.int .i64 x] w fun e w' => e = .returned (.bool (idOk x)) ∧ w = w' := by
  unfold idOk
  by_cases h1 : 0 ≤ x
  · have g1 : decide (0 ≤ x) = true := by simpa using h1
    go_enter Tryz.func89, Tryz.ntmps89
    go_wp2
    go_ret
    exact ⟨by rw [g1]; rfl, rfl⟩
  · have g1 : decide (0 ≤ x) = false := by simpa using h1
    go_enter Tryz.func89, Tryz.ntmps89
    go_wp2
    go_ret
    exact ⟨rfl, rfl⟩
theorem qright_b {x : Int} {b : Bool} (h : idOk x = b) (w : World) :
    Calls Tryz.prog 89 #[.int .i64 x] w fun e w' => e = .returned (.bool b) ∧ w = w' := (qright_any x w).mono fun _ _ ⟨he, hw⟩ => ⟨by rw [he, h], hw⟩
set_option maxHeartbeats 400000 in
theorem qindex (x : Int) (w : World) :
    Calls Tryz.prog 87 #[.int .i64 x] w fun e w' => e = .returned (.int .i64 (if idOk x then x % 256 else -1)) ∧ w = w' := by
  by_cases ho : idOk x = true
  · obtain ⟨i, q, hi, hq, hx, ht, hd⟩ := id_parts ho
    rw [if_pos ho, show x % 256 = (i : Int) by omega]
    have HO := Lib.hid ho
    clear ho hx hd
    go_enter Tryz.func87, Tryz.ntmps87
    go_wp2_with fail
    refine (qright_b HO.out _).mono ?_
    rintro e w1 ⟨rfl, rfl⟩
    go_wp2
    go_ret
    exact ⟨rfl, rfl⟩
  · have ho' : idOk x = false := by simpa using ho
    rw [if_neg ho]
    have HO := Lib.hid ho'
    clear ho ho'
    go_enter Tryz.func87, Tryz.ntmps87
    go_wp2_with fail
    refine (qright_b HO.out _).mono ?_
    rintro e w1 ⟨rfl, rfl⟩
    go_wp2
    go_ret
    exact ⟨rfl, rfl⟩
set_option maxHeartbeats 400000 in
theorem qgen (x : Int) (w : World) :
    Calls Tryz.prog 90 #[.int .i64 x] w fun e w' => e = .returned (.int .i64 (if idOk x then x / 256 else -1)) ∧ w = w' := by
  by_cases ho : idOk x = true
  · obtain ⟨i, q, hi, hq, hx, ht, hd⟩ := id_parts ho
    rw [if_pos ho, show x / 256 = (q : Int) by omega]
    have HO := Lib.hid ho
    clear ho hx ht
    go_enter Tryz.func90, Tryz.ntmps90
    go_wp2_with fail
    refine (qright_b HO.out _).mono ?_
    rintro e w1 ⟨rfl, rfl⟩
    go_wp2
    go_ret
    exact ⟨rfl, rfl⟩
  · have ho' : idOk x = false := by simpa using ho
    rw [if_neg ho]
    have HO := Lib.hid ho'
    clear ho ho'
    go_enter Tryz.func90, Tryz.ntmps90
    go_wp2_with fail
    refine (qright_b HO.out _).mono ?_
    rintro e w1 ⟨rfl, rfl⟩
    go_wp2
    go_ret
    exact ⟨rfl, rfl⟩

set_option maxHeartbeats 1000000 in
theorem qlive (g : Nat) (R : Int) (G : Nat → Int) (L : Nat → Bool) (x : Int) (w : World) (row : w.rowIs g 158 513 (poolF R G L)) :
    Calls Tryz.prog 56 #[.pointer (some ⟨g, 0, none⟩), .int .i64 x] w fun e w' => e = .returned (.bool (liveB G L x)) ∧ Below w.heap.size w w' := by
  by_cases ho : idOk x = true
  · obtain ⟨i, q, hi, hq, hx, ht, hd⟩ := id_parts ho
    have HO := Lib.hid ho
    rw [show liveB G L x = (L i && decide (G i = (q : Int))) by rw [hx]; exact live_of hi hq]
    have HIx : Hid (∀ w', Calls Tryz.prog 87 #[.int .i64 x] w' fun e w'' => e = .returned (.int .i64 (i : Int)) ∧ w' = w'') := Lib.hid (fun w' => (qindex x w').mono fun _ _ ⟨he, hw⟩ => ⟨by rw [he, if_pos ho, show x % 256 = (i : Int) by omega], hw⟩)
    have HGn : Hid (∀ w', Calls Tryz.prog 90 #[.int .i64 x] w' fun e w'' => e = .returned (.int .i64 (q : Int)) ∧ w' = w'') := Lib.hid (fun w' => (qgen x w').mono fun _ _ ⟨he, hw⟩ => ⟨by rw [he, if_pos ho, show x / 256 = (q : Int) by omega], hw⟩)
    clear ho hx ht hd
    have cl := pool_live row hi
    have cg := pool_gen row hi
    clear row
    have hi0 : (0 : Int) ≤ (i : Int) := by omega
    have hi1 : (i : Int) < 256 := by omega
    obtain ⟨b, hb⟩ : ∃ b, b = L i := ⟨_, rfl⟩
    obtain ⟨y, hy⟩ : ∃ y, y = G i := ⟨_, rfl⟩
    rw [← hb] at cl
    rw [← hy] at cg
    rw [← hb, ← hy]
    clear hb hy
    cases b
    · go_enter Tryz.func56, Tryz.ntmps56
      go_wp2_with fail
      refine (qright_b HO.out _).mono ?_
      rintro e w1 ⟨rfl, rfl⟩
      go_wp2_with fail
      refine (HIx.out _).mono ?_
      rintro e w1 ⟨rfl, rfl⟩
      go_wp2
      go_quiet (fail)
      go_wp2
      go_ret
      exact ⟨rfl, Go.below_drewN (Below.refl _ _) nq⟩
    · go_enter Tryz.func56, Tryz.ntmps56
      go_wp2_with fail
      refine (qright_b HO.out _).mono ?_
      rintro e w1 ⟨rfl, rfl⟩
      go_wp2_with fail
      refine (HIx.out _).mono ?_
      rintro e w1 ⟨rfl, rfl⟩
      go_wp2
      go_region_held3 (fun w' => w'.cell? ⟨g, 257 + i, none⟩ = some (.bool true) ∧ w'.cell? ⟨g, 1 + i, none⟩ = some (.int .i64 y)) (first | exact ⟨cl, cg⟩ | go_keep)
        (first | (go_at_call 90; refine (HGn.out _).mono ?_; rintro e w2 ⟨rfl, rfl⟩))
      go_wp2
      go_ret
      exact ⟨by simp; rfl, bdrewn (Below.refl _ _)⟩
  · have ho' : idOk x = false := by simpa using ho
    rw [live_no ho']
    have HO := Lib.hid ho'
    clear ho ho' row
    go_enter Tryz.func56, Tryz.ntmps56
    go_wp2_with fail
    refine (qright_b HO.out _).mono ?_
    rintro e w1 ⟨rfl, rfl⟩
    go_wp2
    go_ret
    exact ⟨rfl, Below.refl _ _⟩

theorem all_room {G : Nat → Int} {L : Nat → Bool} {R : Nat} (h : ∀ i, L i = true → i < R) : ∀ n, allL G L (R + n) = allL G L R
  | 0 => rfl
  | n + 1 => by
    have hL : L (R + n) = false := by
      by_cases c : L (R + n) = true
      · have := h _ c; omega
      · simpa using c
    rw [← Nat.add_assoc, all_no hL]
    exact all_room h n

set_option maxHeartbeats 400000 in
theorem qname (g : Nat) (R : Int) (G : Nat → Int) (L : Nat → Bool) (k : Nat) (w : World) (hG : GenOk G) (hk : k < 256) (row : w.rowIs g 158 513 (poolF R G L)) :
    Calls Tryz.prog 117 #[.pointer (some ⟨g, 0, none⟩), .int .i64 (k : Int)] w fun e w' => e = .returned (.int .i64 (nm (G k) k)) ∧ w = w' := by
  have cg := pool_gen row hk
  have hyb := hG k hk
  unfold nm
  clear row hG
  obtain ⟨y, hy⟩ : ∃ y, y = G k := ⟨_, rfl⟩
  rw [← hy] at cg hyb
  rw [← hy]
  clear hy
  have hk0 : (0 : Int) ≤ (k : Int) := by omega
  have hk1 : (k : Int) < 256 := by omega
  have hw1 : IntKind.i64.wrap (256 * y) = 256 * y := IntWalk.i64_in _ (by omega)
  have hw2 : IntKind.i64.wrap (256 * y + (k : Int)) = 256 * y + (k : Int) := IntWalk.i64_in _ (by omega)
  go_enter Tryz.func117, Tryz.ntmps117
  go_wp2
  go_ret
  exact ⟨rfl, rfl⟩

set_option maxHeartbeats 1000000 in
theorem qall (g R : Nat) (G : Nat → Int) (L : Nat → Bool) (w : World) (hP : POk R G L) (row : w.rowIs g 158 513 (poolF R G L)) :
    Calls Tryz.prog 82 #[.pointer (some ⟨g, 0, none⟩)] w fun e w' => ∃ a cap, e = .returned (.slice a (allL G L 256).length cap) ∧ Row w' a (allL G L 256).length (allL G L 256) ∧ Below w.heap.size w w' := by
  have hall : allL G L 256 = allL G L R := by
    have h1 := all_room (G := G) (fun i hi => (hP.2.2 i hi).1) (256 - R)
    have h2 := hP.1
    rwa [show R + (256 - R) = 256 by omega] at h1
  rw [hall]
  have hR := hP.1
  have HRow := Lib.hid row
  have HG := Lib.hid hP.gen
  have cr := pool_room row
  clear row hP hall
  obtain ⟨i0, hi0, hz0, hz1, hz2⟩ := info_parts id_info
  have HI := Lib.hid (And.intro hi0 (And.intro hz0 (And.intro hz1 hz2)))
  clear hi0 hz0 hz1 hz2
  go_enter Tryz.func82, Tryz.ntmps82
  go_wp2
  go_loopw [3, 11] (fun v i wr => ∃ k : Nat, k ≤ R ∧ i = .int .i64 k ∧ OwnD wr w.heap.size v (allL G L k).length (allL G L k) ∧ Below w.heap.size w wr) (fun _ i _ => R - (intOf i).toNat)
  case atStart => exact ⟨0, by omega, rfl, OwnD.nil _ _, Below.refl _ _⟩
  case round =>
    clear cr
    obtain ⟨k, hk, rfl, hown, hb⟩ := hrel
    have HOwn := Lib.hid hown
    have HB := Lib.hid hb
    clear hown hb
    have HR2 := Lib.hid (World.rowIs.keep HRow.out HB.out)
    by_cases hlt : k < R
    · have cl := pool_live HR2.out (k := k) (by omega)
      have hk0 : (0 : Int) ≤ (k : Int) := by omega
      have hk1 : (k : Int) < 256 := by omega
      have hkR : (k : Int) < (R : Int) := by omega
      have zg : g < wr.heap.size := HR2.out.lt
      have hle := all_len G L k
      by_cases hL : L k = true
      · rw [hL] at cl
        have HA := Lib.hid (all_yes (G := G) hL)
        clear hL
        obtain ⟨n, hn⟩ : ∃ n, n = (allL G L k).length := ⟨_, rfl⟩
        rw [← hn] at HOwn hle
        have HN := Lib.hid hn
        clear hn
        have hsz : w.heap.size ≤ wr.heap.size := HB.out.size
        go_wp2_with fail
        refine (qname g R G L k _ HG.out (by omega) HR2.out).mono ?_
        rintro e w1 ⟨rfl, rfl⟩
        go_wp2_with (at_builtin; refine wpList_append_own _ rfl (.tmp 20) (.tmp 24) 53 rfl w.heap.size 31 i0 (.int .i64 0) 1 8 Tryz.underlying53 HI.out.1 HI.out.2.1 HI.out.2.2.1 HI.out.2.2.2 rfl (by decide) _ _ _ rfl (HOwn.out.alloc _) ⟨wr.heap.size, 0, none⟩ 1 1 [.int .i64 (nm (G k) k)] rfl rfl (cell_one_new _ _ _) (by intro u hu; simp at hu; subst hu; rfl) (by unfold maxLen; omega) (by omega) (by simp; omega) ?_)
        intro v' w2 hown' hgrow _
        have HOwn' := Lib.hid hown'
        have HGr := Lib.hid hgrow
        clear hown' hgrow
        go_wp2
        go_roundw
        case rel =>
          have el : (allL G L (k + 1)).length = n + 1 := by rw [HA.out, List.length_append, ← HN.out]; rfl
          refine ⟨k + 1, by omega, by go_num, ?_, grownD_below HOwn.out (Nat.le_refl _) HB.out hsz HGr.out⟩
          rw [el]
          unfold OwnD
          rw [HA.out, List.map_append]
          exact HOwn'.out
        case measure => simp [intOf] <;> omega
      · have hL' : L k = false := by simpa using hL
        rw [hL'] at cl
        have HA := Lib.hid (all_no (G := G) hL')
        clear hL hL'
        go_wp2
        go_roundw
        case rel => exact ⟨k + 1, by omega, by go_num, by rw [HA.out]; exact HOwn.out, HB.out⟩
        case measure => simp [intOf] <;> omega
    · obtain rfl : k = R := by omega
      obtain ⟨a, cap, rfl, hr⟩ := HOwn.out.row
      have HA := Lib.hid hr
      clear hr
      go_wp2
      go_ret
      exact ⟨a, cap, rfl, HA.out, HB.out⟩

set_option maxHeartbeats 1000000 in
theorem qtake (g R : Nat) (G : Nat → Int) (L : Nat → Bool) (w : World) (hR : R ≤ 256) (hG : GenOk G) (row : w.rowIs g 158 513 (poolF R G L)) :
    Calls Tryz.prog 92 #[.pointer (some ⟨g, 0, none⟩)] w fun e w' => e = .returned (.tuple #[.int .i64 (tkV G L R), .int .i64 (tkE G L R)]) ∧ w'.rowIs g 158 513 (poolF R G (tkL G L R)) ∧ w.grownBy w' (some g) := by
  have HRow := Lib.hid row
  have HG := Lib.hid hG
  have cr := pool_room row
  clear row hG
  go_enter Tryz.func92, Tryz.ntmps92
  go_wp2
  go_loopw [11] (fun i wr => ∃ k : Nat, k ≤ R ∧ i = .int .i64 k ∧ (∀ j, j < k → freeB G L j = false) ∧ wr = w) (fun i _ => R - (intOf i).toNat)
  case atStart => exact ⟨0, by omega, rfl, fun j hj => by omega, rfl⟩
  case round =>
    obtain ⟨k, hk, rfl, hz, rfl⟩ := hrel
    have HZ := Lib.hid hz
    clear hz
    by_cases hlt : k < R
    · have cl := pool_live HRow.out (k := k) (by omega)
      have cg := pool_gen HRow.out (k := k) (by omega)
      have fl := HRow.out.frozen (257 + k)
      have hk0 : (0 : Int) ≤ (k : Int) := by omega
      have hk1 : (k : Int) < 256 := by omega
      have hkR : (k : Int) < (R : Int) := by omega
      obtain ⟨b, hb⟩ : ∃ b, b = L k := ⟨_, rfl⟩
      obtain ⟨y, hy⟩ : ∃ y, y = G k := ⟨_, rfl⟩
      have hyb := HG.out k (by omega)
      rw [← hb] at cl
      rw [← hy] at cg hyb
      have HF : Hid (freeB G L k = (!b && decide (y ≤ 65535))) := Lib.hid (by unfold freeB; rw [hb, hy])
      have HY := Lib.hid hy
      clear hb hy
      cases b
      · by_cases hy : y ≤ 65535
        · have hgl : 1 + k ≠ 257 + k := by omega
          go_wp2_with fail
          refine (qname g R G (upd L k true) k _ HG.out (by omega) (pool_setL HRow.out (by omega) true)).mono ?_
          rintro e w1 ⟨rfl, rfl⟩
          go_wp2
          go_ret2
          have e1 : tkI G L R = some k := tk_some hlt HZ.out (by rw [HF.out]; simpa using hy)
          have ev : tkV G L R = nm (G k) k := by unfold tkV; rw [e1]
          have ee : tkE G L R = 0 := by unfold tkE; rw [e1]
          refine ⟨by rw [ev, ee]; rfl, ?_, grown_set _ _ _ _⟩
          unfold tkL
          rw [e1]
          exact pool_setL HRow.out (by omega) true
        · have HZ2 := Lib.hid (free_step HZ.out (by rw [HF.out]; simpa using hy))
          go_wp2
          go_roundw
          case rel => exact ⟨k + 1, by omega, by go_num, HZ2.out, by trivial⟩
          case measure => simp [intOf] <;> omega
      · have HZ2 := Lib.hid (free_step HZ.out (by rw [HF.out]; rfl))
        go_wp2
        go_roundw
        case rel => exact ⟨k + 1, by omega, by go_num, HZ2.out, by trivial⟩
        case measure => simp [intOf] <;> omega
    · obtain rfl : k = R := by omega
      have e1 : tkI G L k = none := tk_none HZ.out
      have HE := Lib.hid e1
      clear e1
      go_wp2
      go_ret2
      have ev : tkV G L k = 0 := by unfold tkV; rw [HE.out]
      have ee : tkE G L k = 3 := by unfold tkE; rw [HE.out]
      have el : tkL G L k = L := by unfold tkL; rw [HE.out]
      exact ⟨by rw [ev, ee]; rfl, by rw [el]; exact HRow.out, World.grownBy.refl _ _⟩

set_option maxHeartbeats 1000000 in
theorem qdrop (g : Nat) (R : Int) (G : Nat → Int) (L : Nat → Bool) (x : Int) (w : World) (hG : GenOk G) (row : w.rowIs g 158 513 (poolF R G L)) :
    Calls Tryz.prog 98 #[.pointer (some ⟨g, 0, none⟩), .int .i64 x] w fun e w' => e = .returned (.bool (liveB G L x)) ∧ w'.rowIs g 158 513 (poolF R (drG G L x) (drL G L x)) ∧ w.grownBy w' (some g) := by
  have HRow := Lib.hid row
  clear row
  by_cases ho : liveB G L x = true
  · have hid : idOk x = true := by
      by_cases c : idOk x = true
      · exact c
      · rw [live_no (by simpa using c)] at ho; cases ho
    obtain ⟨i, q, hi, hq, hx, ht, hd⟩ := id_parts hid
    have hdL : drL G L x = upd L i false := by unfold drL; rw [if_pos ho, show (x % 256).toNat = i by omega]
    have hdG : drG G L x = upd G i (G i + 1) := by unfold drG; rw [if_pos ho, show (x % 256).toNat = i by omega]
    rw [hdL, hdG, ho]
    have HO : Hid (∀ w', w'.rowIs g 158 513 (poolF R G L) → Calls Tryz.prog 56 #[.pointer (some ⟨g, 0, none⟩), .int .i64 x] w' fun e w'' => e = .returned (.bool true) ∧ Below w'.heap.size w' w'') :=
      Lib.hid (fun w' hr => (qlive g R G L x w' hr).mono fun _ _ ⟨he, hw⟩ => ⟨by rw [he, ho], hw⟩)
    have HIx : Hid (∀ w', Calls Tryz.prog 87 #[.int .i64 x] w' fun e w'' => e = .returned (.int .i64 (i : Int)) ∧ w' = w'') := Lib.hid (fun w' => (qindex x w').mono fun _ _ ⟨he, hw⟩ => ⟨by rw [he, if_pos hid, show x % 256 = (i : Int) by omega], hw⟩)
    have hyb := hG i hi
    clear hG ho hid hx hd ht hdL hdG
    have hi0 : (0 : Int) ≤ (i : Int) := by omega
    have hi1 : (i : Int) < 256 := by omega
    obtain ⟨y, hy⟩ : ∃ y, y = G i := ⟨_, rfl⟩
    rw [← hy] at hyb
    rw [← hy]
    have hw1 : IntKind.i64.wrap (y + 1) = y + 1 := IntWalk.i64_in _ (by omega)
    go_enter Tryz.func98, Tryz.ntmps98
    go_wp2_with fail
    refine (HO.out _ HRow.out).mono ?_
    rintro e w1 ⟨rfl, b1⟩
    have HGr := Lib.hid (below_grown b1 (some g))
    replace HRow := Lib.hid (World.rowIs.keep HRow.out b1)
    clear b1
    have cl := pool_live HRow.out hi
    have fl := HRow.out.frozen (257 + i)
    have HRow2 := Lib.hid (pool_setL HRow.out hi false)
    have cg := pool_gen HRow2.out hi
    have fg := HRow2.out.frozen (1 + i)
    rw [← hy] at cg
    clear hy
    go_wp2_with fail
    refine (HIx.out _).mono ?_
    rintro e w2 ⟨rfl, rfl⟩
    go_wp2
    go_region
    go_wp2
    go_ret
    exact ⟨rfl, rowIs_drew (pool_setG HRow2.out hi _), grown_trans HGr.out (grown_drew (grown_trans (grown_set _ _ _ _) (grown_set _ _ _ _)))⟩
  · have ho' : liveB G L x = false := by simpa using ho
    have hdL : drL G L x = L := by unfold drL; rw [if_neg ho]
    have hdG : drG G L x = G := by unfold drG; rw [if_neg ho]
    rw [hdL, hdG, ho']
    have HO : Hid (∀ w', w'.rowIs g 158 513 (poolF R G L) → Calls Tryz.prog 56 #[.pointer (some ⟨g, 0, none⟩), .int .i64 x] w' fun e w'' => e = .returned (.bool false) ∧ Below w'.heap.size w' w'') :=
      Lib.hid (fun w' hr => (qlive g R G L x w' hr).mono fun _ _ ⟨he, hw⟩ => ⟨by rw [he, ho'], hw⟩)
    clear ho ho' hG hdL hdG
    go_enter Tryz.func98, Tryz.ntmps98
    go_wp2_with fail
    refine (HO.out _ HRow.out).mono ?_
    rintro e w1 ⟨rfl, b1⟩
    have HGr := Lib.hid (below_grown b1 (some g))
    replace HRow := Lib.hid (World.rowIs.keep HRow.out b1)
    clear b1
    go_wp2
    go_ret
    exact ⟨rfl, HRow.out, HGr.out⟩

theorem kinds_mem (s : Int) {k : Nat} (hk : k < 5) : ((k : Int) ∈ kindsL s) ↔ hasN s k = true := by
  unfold kindsL
  rw [List.mem_filter, has_yes (by omega)]
  have : (k : Int) ∈ ([0, 1, 2, 3, 4] : List Int) := by
    obtain rfl | rfl | rfl | rfl | rfl : k = 0 ∨ k = 1 ∨ k = 2 ∨ k = 3 ∨ k = 4 := by omega
    all_goals decide
  simp [this]
theorem hasC_kind (s : Int) {i : Nat} (hi : i < 8) : hasC s i = true ↔ (i = 0 ∨ kC i ∈ kindsL s) := by
  have k0 := kinds_mem s (k := 0) (by omega)
  have k1 := kinds_mem s (k := 1) (by omega)
  have k2 := kinds_mem s (k := 2) (by omega)
  have k3 := kinds_mem s (k := 3) (by omega)
  rcases lt8 hi with rfl | rfl | rfl | rfl | rfl | rfl | rfl | rfl
  · simp [hasC]
  all_goals
    simp only [hasC, kC]
    simp
    first | exact k0.symm | exact k1.symm | exact k2.symm | exact k3.symm
theorem Rs_add (s : Int) (R : TR) (y : Int × PT) {i : Nat} (hi : i < 8) : addKs (kindsL s) (Rs s R) y i = Rs s (R ++ [y]) i := by
  unfold addKs Rs
  by_cases c : hasC s i = true
  · rw [if_pos ((hasC_kind s hi).1 c), if_pos c, if_pos c]
  · rw [if_neg (fun d => c ((hasC_kind s hi).2 d)), if_neg c, if_neg c]
theorem Rs_put (s : Int) (R : TR) (row : Nat) (y : Int × PT) {i : Nat} (h0 : 1 ≤ i) (hi : i < 8) : putTo (Rs s R) row y 8 i = Rs s (R.set row y) i := by
  unfold putTo Rs
  rw [if_pos ⟨h0, hi⟩]
  split
  · rfl
  · simp
theorem Rs_cut (s : Int) (R : TR) (row i : Nat) : cutL (Rs s R i) row = Rs s (cutL R row) i := by
  unfold Rs
  split
  · rfl
  · unfold cutL; rw [if_neg (by simp)]
theorem col0_put {w : World} {v : Value} {R : TR} {row : Nat} (h : Col w 0 v R) (P : PT) : Col w 0 v (R.set row ((R.getD row d0).1, P)) := by
  have e : ∀ R : TR, R.flatMap cId = (R.map Prod.fst).map (fun x => Value.int .i64 x) := fun R => by
    induction R with
    | nil => rfl
    | cons x r ih => rw [List.flatMap_cons, ih]; rfl
  have e2 : (R.set row ((R.getD row d0).1, P)).map Prod.fst = R.map Prod.fst := by
    rw [List.map_set]
    by_cases c : row < R.length
    · have : (R.getD row d0).1 = (R.map Prod.fst)[row]'(by simpa using c) := by simp [List.getD, List.getElem?_eq_getElem c]
      rw [this, List.set_getElem_self]
    · exact List.set_eq_of_length_le (by simpa using Nat.le_of_not_lt c)
  show w.ownsRow 0 _ _ v _ ((R.set row ((R.getD row d0).1, P)).flatMap cId)
  rw [e, e2, ← e, List.length_set]
  exact h
theorem tab_put {w : World} {g : Nat} {s : Int} {v : Nat → Value} {R : TR} {row : Nat} {P : PT} (h : Tab w g s v (putTo (Rs s R) row ((R.getD row d0).1, P) 8)) : Tab w g s v (Rs s (R.set row ((R.getD row d0).1, P))) :=
  ⟨h.blk, fun i hi => by
    by_cases c : i = 0
    · subst c
      exact col0_put (h.own 0 (by omega)) P
    · rw [← Rs_put s R row _ (by omega) hi]
      exact h.own i hi, h.far, h.off⟩
theorem rd_row {s : Int} {R : TR} {row : Nat} (hs : 0 ≤ s ∧ s ≤ 31) (hr : row < R.length) (hf : ∀ x ∈ R, fitsB s x.2 = true) : (rdL (Rs s R) row).set 0 (.int .i64 s) = pl (R.getD row d0).2 := by
  have hm : R.getD row d0 ∈ R := by
    have := getD_at hr
    exact List.mem_of_getElem? this
  have hfit := hf _ hm
  obtain ⟨P, hP⟩ : ∃ P, P = (R.getD row d0).2 := ⟨_, rfl⟩
  rw [← hP] at hfit ⊢
  unfold fitsB at hfit
  rw [Bool.and_eq_true, beq_iff_eq] at hfit
  have hb := right_bare hfit.1
  rw [hfit.2] at hb
  rw [← hb]
  have e1 : s % 32 = s := by omega
  have g : ∀ i, (Rs s R i).getD row d0 = if hasC s i then R.getD row d0 else d0 := fun i => by unfold Rs; split <;> rfl
  unfold rdL
  rw [g, g, g, g, g, g, g]
  show PL s _ _ _ _ _ _ _ = pl (pickT s P)
  unfold pl pickT
  simp only [e1, hP]
  unfold hasC
  cases hasN s 0 <;> cases hasN s 1 <;> cases hasN s 2 <;> cases hasN s 3 <;> rfl
theorem TBl.keep {w w' : World} {g : Nat} {L : Nat → Prop} {s : Int} {R : TR} (h : TBl w g L s R) (hb : Below w.heap.size w w') : TBl w' g L s R := by
  obtain ⟨v, h1, h2⟩ := h
  exact ⟨v, h1.keep hb, h2⟩
theorem build_zero (W : World) : (Instr.build 43 #[]).run Tryz.prog W = .ok (.agg (pl zT).toArray) W := by kernel_rfl
theorem wpList_bld0 {ops : Array Oper} {rest : List Oper} {op : Oper} {a : Go.Act} {w : World} {Q : Exit → Go.Act → World → Prop} (hgd : op.guard = none) (t : TypeId) (ho : op.op = .build t #[]) (vr : Value)
    (hrun : ∀ W, (Instr.build t #[]).run Tryz.prog W = .ok vr W)
    (h : wpList Tryz.prog ops Q rest (a.put op.dst vr) w) : wpList Tryz.prog ops Q (op :: rest) a w :=
  wpList_plain hgd fun K hK => by
    have h2 := hK _ _ h
    unfold Oper.wp execOp
    simp only [ho]
    simp [hrun]
    exact h2
theorem results_cell3 {fn : Func} {tmps : Array Value} {s r q : Tmp} {t : TypeId} {g : Nat} {v u x : Value} {w : World} (hr : fn.results = #[.tmp q, .cell s t, .tmp r]) (hp : tmps.getD s undef = .pointer (some ⟨g, 0, none⟩)) (hu : tmps.getD r undef = u) (hx : tmps.getD q undef = x) (hl : (loadVar t ⟨g, 0, none⟩).run Tryz.prog w = .ok v w) : (results fn tmps).run Tryz.prog w = .ok (.tuple #[x, v, u]) w := by
  unfold results
  rw [hr]
  have hp' : tmps[s]?.getD undef = .pointer (some ⟨g, 0, none⟩) := by simpa using hp
  have hu' : tmps[r]?.getD undef = u := by simpa using hu
  have hx' : tmps[q]?.getD undef = x := by simpa using hx
  simp [hp', hu', hx', hl, asAddr]
set_option maxHeartbeats 2000000 in
set_option maxRecDepth 100000 in
theorem row_no {g : Nat} {s : Int} {v : Nat → Value} {X : Nat → TR} {w : World} (h0 : Tab w g s v X) (row : Int) (hb : thB (X 0).length row = false) :
    Calls Tryz.prog 86 #[.pointer (some ⟨g, 0, none⟩), .int .i64 row] w fun e w' => e = .returned (.tuple #[.int .i64 0, .agg (pl zT).toArray, .bool false]) ∧ Below w.heap.size w w' := by
  have HT := Lib.hid (h0.keep (alloc_below w (.cells Z24.toArray 43)))
  have HB := Lib.hid hb
  have HBd := Lib.hid build_zero
  have HSz := Lib.hid (pl_size zT)
  have HSz' := Lib.hid (pl_size' zT)
  have HO := Lib.hid (pl_one zT)
  have HL : Hid ((pl zT).length = Z24.length) := Lib.hid rfl
  obtain ⟨Xp, hXp⟩ : ∃ Xp, Xp = pl zT := ⟨_, rfl⟩
  rw [← hXp] at HBd HSz HSz' HO HL
  rw [← hXp]
  have K5 := Lib.hid (Blk.new w 43 Z24.toArray)
  have HT5 : Hid ((w.alloc (.cells Z24.toArray 43)).there w.heap.size 0 Xp.toArray.size) := Lib.hid (blk_there K5.out (by rw [List.size_toArray, HL.out]; omega))
  have L5 : Hid (Blk ((w.alloc (.cells Z24.toArray 43)).setCells w.heap.size 0 Xp) w.heap.size 43 Xp.toArray) := Lib.hid (blk_over K5.out HL.out)
  clear hXp hb h0
  go_enter Tryz.func86, Tryz.ntmps86
  go_wp2_with fail
  refine (there_any HT.out row HB.out).mono ?_
  rintro e w1 ⟨rfl, rfl⟩
  go_wp2_with (first | refine wpList_bld0 rfl 43 rfl (.agg Xp.toArray) HBd.out ?_ | refine wpList_store_mid rfl 43 (.tmp 5) (.tmp 12) rfl w.heap.size 0 Xp.toArray rfl rfl HT5.out HSz'.out HO.out ?_)
  refine fin (fun W => Blk W w.heap.size 43 Xp.toArray ∧ Below w.heap.size w W) ⟨L5.out, below_setCells _ (alloc_below _ _) (Nat.le_refl _)⟩ ?_
  rintro W ⟨kr, hb⟩
  have hl := run_loadVar_mid W w.heap.size 0 43 Xp _ (blk_whole kr) Tryz.underlying43 rfl HSz.out
  try simp only [Go.Act.put, List.setIfInBounds_toArray, List.set_cons_zero, List.set_cons_succ]
  exact bodyPost_ret (v := .tuple #[.int .i64 0, .agg Xp.toArray, .bool false]) (results_cell3 Tryz.results86 rfl rfl rfl hl) rfl ⟨rfl, hb⟩

set_option maxHeartbeats 4000000 in
set_option maxRecDepth 100000 in
theorem row_yes {g : Nat} {s : Int} {v : Nat → Value} {X : Nat → TR} {w : World} (h0 : Tab w g s v X) (hX : ∀ i, i < 8 → (X i).length ≤ 1000) (row : Nat) (hr : row < (X 0).length) (Xp : List Value) (hXp : (rdL X row).set 0 (.int .i64 s) = Xp) (hO : Xp.toArray.all (·.oneCell') = true) :
    Calls Tryz.prog 86 #[.pointer (some ⟨g, 0, none⟩), .int .i64 row] w fun e w' => e = .returned (.tuple #[.int .i64 ((X 0).getD row d0).1, .agg Xp.toArray, .bool true]) ∧ Below w.heap.size w w' := by
  obtain ⟨gi, cap, cur, hv0, hbk, hcap, hmax, _, _⟩ := (h0.own 0 (by omega)).open_ (by omega)
  have hown := h0.own 0 (by omega)
  rw [hv0] at hown
  have ci := range1 (ColX.range (c := cId) (k := 1) (fun _ => rfl) hown (getD_at hr))
  have hlen : Xp.length = 24 := by rw [← hXp]; rfl
  have HSz : Hid ((Tryz.prog.info? 43).map (·.size) = some Xp.length) := Lib.hid (by rw [hlen]; exact size_parts 0 zI 0 zI 0 0 false 0)
  have HSz' : Hid ((Tryz.prog.info? 43).map (·.size) = some Xp.toArray.size) := Lib.hid (by rw [List.size_toArray, hlen]; exact size_parts 0 zI 0 zI 0 0 false 0)
  have HO := Lib.hid hO
  have HL := Lib.hid hlen
  have hro : (rdL X row).toArray.all (·.oneCell') = true := PL_one _ _ _ _ _ _ _ _
  have HRd : Hid (∀ u, Below w.heap.size w u → Calls Tryz.prog 122 #[.pointer (some ⟨g, 1, none⟩), .int .i64 row] u fun e w' => e = .returned (.agg (rdL X row).toArray) ∧ Below u.heap.size u w') := Lib.hid (fun u k => read_any (h0.keep k) hX row)
  have HTh : Hid (∀ u, Below w.heap.size w u → Calls Tryz.prog 121 #[.pointer (some ⟨g, 0, none⟩), .int .i64 row] u fun e w' => e = .returned (.bool true) ∧ u = w') := Lib.hid (fun u k => there_any (h0.keep k) row (by unfold thB; rw [show decide ((0 : Int) ≤ (row : Int)) = true by simp, show decide ((row : Int) < ((X 0).length : Int)) = true by simpa using hr]; rfl))
  have CC : Hid (∀ u, Below w.heap.size w u → u.cell? ⟨g, 0, none⟩ = some (.int .i64 s) ∧ u.cell? ⟨g, 1, none⟩ = some (.slice (some ⟨gi, 0, none⟩) (X 0).length cap) ∧ u.cell? ⟨gi, row, none⟩ = some (.int .i64 ((X 0).getD row d0).1)) := Lib.hid (fun u k => ⟨(h0.keep k).set0, by rw [← hv0]; exact ((h0.keep k).cell (j := 0) (by omega)).1, cell_keep ci k⟩)
  have hg := h0.blk.lt
  have hgi := hbk.lt
  have hX0 := hX 0 (by omega)
  obtain ⟨rid, hrid⟩ : ∃ rid, rid = ((X 0).getD row d0).1 := ⟨_, rfl⟩
  rw [← hrid] at CC ⊢
  obtain ⟨n, hn⟩ : ∃ n, n = (X 0).length := ⟨_, rfl⟩
  rw [← hn] at CC hr hX0 hcap
  obtain ⟨Y, hY⟩ : ∃ Y, Y = rdL X row := ⟨_, rfl⟩
  have hYl : Y.length = 24 := by rw [hY]; rfl
  have HYl := Lib.hid hYl
  rw [← hY] at HRd hXp hro
  have HYo := Lib.hid hro
  have HYz : Hid ((Tryz.prog.info? 43).map (·.size) = some Y.toArray.size) := Lib.hid (by rw [List.size_toArray, hYl]; exact size_parts 0 zI 0 zI 0 0 false 0)
  have r0 : (0 : Int) ≤ (row : Int) := by omega
  have r1 : (row : Int) < (n : Int) := by omega
  have HXp := Lib.hid hXp
  unfold maxLen at hmax
  have K5 := Lib.hid (Blk.new w 43 Z24.toArray)
  have HB5 : Hid (Below w.heap.size w (w.alloc (.cells Z24.toArray 43))) := Lib.hid (alloc_below _ _)
  clear hXp hro hY hn hrid hlen hbk ci hown hv0 h0 hX hO hYl
  go_enter Tryz.func86, Tryz.ntmps86
  go_upto_region 1 with fail
  refine fin (fun W => Blk W w.heap.size 43 Z24.toArray ∧ Below w.heap.size w W) ⟨K5.out, HB5.out⟩ ?_
  clear K5 HB5
  rintro W ⟨k5, hb⟩
  have K5 := Lib.hid k5
  have HB := Lib.hid hb
  clear k5 hb
  go_wp2_with fail
  refine (HTh.out _ HB.out).mono ?_
  rintro e w1 ⟨rfl, rfl⟩
  go_wp2_with fail
  refine (HRd.out _ HB.out).mono ?_
  rintro e w1 ⟨rfl, b1⟩
  replace K5 := Lib.hid (Blk.keep K5.out b1)
  replace HB := Lib.hid (bthen HB.out b1)
  clear b1 HTh HRd
  have hw5 : w.heap.size < w1.heap.size := K5.out.lt
  have K7 := Lib.hid (Blk.new w1 43 Z24.toArray)
  have HT7 : Hid ((w1.alloc (.cells Z24.toArray 43)).there w1.heap.size 0 Y.toArray.size) := Lib.hid (blk_there K7.out (by rw [List.size_toArray, HYl.out]; exact Nat.le_refl 24))
  have L7 : Hid (Blk ((w1.alloc (.cells Z24.toArray 43)).setCells w1.heap.size 0 Y) w1.heap.size 43 Y.toArray ∧ Blk ((w1.alloc (.cells Z24.toArray 43)).setCells w1.heap.size 0 Y) w.heap.size 43 Z24.toArray ∧ Below w.heap.size w ((w1.alloc (.cells Z24.toArray 43)).setCells w1.heap.size 0 Y)) := Lib.hid ⟨blk_over K7.out HYl.out, blk_setFar _ (K5.out.alloc _) (by omega), below_setCells _ (balloc HB.out _) (by omega)⟩
  go_upto_region 4 with (refine wpList_store_mid rfl 43 (.tmp 7) (.tmp 17) rfl w1.heap.size 0 Y.toArray rfl rfl HT7.out HYz.out HYo.out ?_)
  refine fin (fun W => Blk W w1.heap.size 43 Y.toArray ∧ Blk W w.heap.size 43 Z24.toArray ∧ Below w.heap.size w W) L7.out ?_
  obtain ⟨g7, hg7⟩ : ∃ g7, g7 = w1.heap.size := ⟨_, rfl⟩
  rw [← hg7]
  rw [← hg7] at hw5
  clear L7 HT7 K7 K5 HB hg7
  rintro W1 ⟨k7, k5, hb⟩
  obtain ⟨c0, -, -⟩ := CC.out _ hb
  obtain ⟨h70, hz70⟩ : ∃ h70, W1.cell? ⟨g7, 0, none⟩ = some h70 := by
    rw [k7.cell 0]
    exact ⟨Y[0]'(by rw [HYl.out]; omega), by simp [HYl.out]⟩
  have f70 := k7.frozen 0
  have hg7l := k7.lt
  have hgW : g < W1.heap.size := Nat.lt_of_lt_of_le hg hb.size
  have L7 : Hid (Blk (W1.setCell ⟨g7, 0, none⟩ (.int .i64 s)) g7 43 Xp.toArray ∧ Blk (W1.setCell ⟨g7, 0, none⟩ (.int .i64 s)) w.heap.size 43 Z24.toArray ∧ Below w.heap.size w (W1.setCell ⟨g7, 0, none⟩ (.int .i64 s))) := Lib.hid ⟨by
    have := k7.set_ 0 (.int .i64 s)
    rw [← HXp.out]
    simpa using this, k5.far (p := ⟨g7, 0, none⟩) (by simp; omega) _, hb.setCell (p := ⟨g7, 0, none⟩) (by simp; omega) _⟩
  clear k7 k5 hb
  go_upto_region 5 with fail
  refine fin (fun W => Blk W g7 43 Xp.toArray ∧ Blk W w.heap.size 43 Z24.toArray ∧ Below w.heap.size w W) L7.out ?_
  clear L7 c0 hz70 f70 hg7l hgW
  rintro W2 ⟨k7, k5, hb⟩
  have K7 := Lib.hid (Blk.drew k7)
  have K5 := Lib.hid (Blk.drew k5)
  have HB := Lib.hid (bdrw hb)
  have hw5' : w.heap.size < W2.heap.size := k5.lt
  clear k7 k5 hb
  refine wp_region_held_drew (S := fun w' => w'.cell? ⟨g, 1, none⟩ = some (.slice (some ⟨gi, 0, none⟩) n cap) ∧ w'.cell? ⟨gi, row, none⟩ = some (.int .i64 rid) ∧ w'.rangeAt g7 0 Xp) (by kernel_rfl) (⟨(CC.out _ HB.out).2.1, (CC.out _ HB.out).2.2, blk_whole K7.out⟩) (fun hHeld => ?_)
  refine tk 0 hHeld ?_
  refine tk 1 hHeld ?_
  refine tk 2 hHeld ?_
  refine tk 3 hHeld ?_
  refine tk 4 hHeld ?_
  refine tk 5 hHeld ?_
  refine tk 6 hHeld ?_
  refine tk 7 hHeld ?_
  refine tkl 8 rfl (yieldsIf_load_mid (by rfl) _ _ rfl _ _ rfl _ _ (fun _ h => h.2.2) Tryz.underlying43 rfl HSz.out) hHeld ?_
  refine tk 9 hHeld ?_
  have HS5 : Hid (Blk (W2.drew.setCells w.heap.size 0 Xp) w.heap.size 43 Xp.toArray) := Lib.hid (blk_over K5.out HL.out)
  refine rd 10 (fun K hK => ?_)
  rw [if_pos (by rfl)]
  refine wp_store_mid 43 _ _ rfl w.heap.size 0 Xp.toArray rfl rfl (blk_there K5.out (by rw [List.size_toArray, HL.out]; exact Nat.le_refl 24)) HSz'.out HO.out ?_
  refine hK.out _ _ ⟨(CC.out _ (below_setCells _ HB.out (Nat.le_refl _))).2.1, (CC.out _ (below_setCells _ HB.out (Nat.le_refl _))).2.2, blk_whole (blk_setFar _ K7.out (by omega))⟩ (fun hHeld => ?_)
  clear hK K
  refine tk 11 hHeld ?_
  refine wpAnyH_done (by kernel_rfl) ?_ _
  clear hHeld
  go_wp2_with fail
  refine fin (fun W => Blk W w.heap.size 43 Xp.toArray ∧ Below w.heap.size w W) ⟨HS5.out, below_setCells _ HB.out (Nat.le_refl _)⟩ ?_
  rintro W ⟨kr, hb⟩
  have hl := run_loadVar_mid W w.heap.size 0 43 Xp _ (blk_whole kr) Tryz.underlying43 rfl HSz.out
  try simp only [Go.Act.put, List.setIfInBounds_toArray, List.set_cons_zero, List.set_cons_succ]
  exact bodyPost_ret (v := .tuple #[.int .i64 rid, .agg Xp.toArray, .bool true]) (results_cell3 Tryz.results86 rfl rfl rfl hl) rfl ⟨rfl, hb⟩

end Go.Proofs.YtkondkajpmafkaaGreat
