/-
  What the law PoolPlays answers, for any pool that answers as the bundle says.
-/
import Derived.Test.YtiniflddgnbngaaPolD
namespace Go.Proofs.Ytiniflddgnbngaa
open Go.RowKit

theorem zeros_row {c : Array Value} (hc : c.toList = (List.range 513).map (poolF 0 z0 n0)) (R : Int) (t : TypeId) (w : World) : (w.alloc (.cells (c.setIfInBounds 0 (.int .i64 R)) t)).rowIs w.heap.size t 513 (poolF R z0 n0) := by
  have hs : c.size = 513 := by rw [← Array.length_toList, hc]; simp
  have h := World.rowIs_alloc w (c.setIfInBounds 0 (.int .i64 R)) t (poolF R z0 n0) (fun i hi => by
    have hi' : i < 513 := by simpa [hs] using hi
    by_cases e : i = 0
    · subst e
      rw [Array.getElem?_setIfInBounds_self_of_lt (by omega)]
      rfl
    · rw [Array.getElem?_setIfInBounds_ne (by omega), ← Array.getElem?_toList, hc]
      simp only [List.getElem?_map, List.getElem?_range hi', Option.map_some]
      unfold poolF
      rw [if_neg e, if_neg e])
  rwa [Array.size_setIfInBounds, hs] at h

set_option maxHeartbeats 400000 in
set_option maxRecDepth 100000 in
theorem plays_many {T : TypeId} {n : Nat} {F : Nat → (Nat → Int) → (Nat → Bool) → Nat → Value} (C : PC T n F) (r x : Int) (a : Option Addr) (len cap : Nat) (w : World) (h : 600 < len) (hbig : len ≤ 9223372036854775807) :
    Calls Try.prog 3 #[.int .i64 r, .slice a len cap, .int .i64 x] w fun e w' => e = .returned (.bool true) ∧ Below w.heap.size w w' := by
  have HC := Lib.hid C
  clear C
  go_enter Try.func3, Try.ntmps3
  go_wp2_with fail
  refine (plalive_any HC.out _).mono ?_
  rintro e w1 ⟨rfl, b1⟩
  have B1 := Lib.hid b1
  clear b1
  go_wp2
  go_ret
  exact ⟨rfl, B1.out⟩

set_option maxHeartbeats 400000 in
set_option maxRecDepth 100000 in
theorem plays_bad {T : TypeId} {n : Nat} {F : Nat → (Nat → Int) → (Nat → Bool) → Nat → Value} (C : PC T n F) (r x : Int) (a : Option Addr) (len cap : Nat) (w : World) (h : len ≤ 600) (hr : r < 0 ∨ 256 < r) :
    Calls Try.prog 3 #[.int .i64 r, .slice a len cap, .int .i64 x] w fun e w' => e = .returned (.bool true) ∧ Below w.heap.size w w' := by
  have HC := Lib.hid C
  have HN := Lib.hid (C.bad w r hr)
  clear C
  rcases hr with hr | hr
  all_goals
    go_enter Try.func3, Try.ntmps3
    go_wp2_with fail
    refine HN.out.mono ?_
    rintro e w1 ⟨rfl, b1⟩
    have B1 := Lib.hid b1
    clear b1
    go_wp2_with fail
    refine (plalive_any HC.out _).mono ?_
    rintro e w2 ⟨rfl, b2⟩
    replace B1 := Lib.hid (bthen B1.out b2)
    clear b2
    go_wp2
    go_ret
    exact ⟨rfl, B1.out⟩

set_option maxHeartbeats 8000000 in
set_option maxRecDepth 100000 in
theorem plays_few {T : TypeId} {n : Nat} {F : Nat → (Nat → Int) → (Nat → Bool) → Nat → Value} (C : PC T n F) (R : Nat) (x : Int) (a : Option Addr) (len cap : Nat) (bs : List Int) (w : World) (hR : R ≤ 256) (h : len ≤ 600) (row : RowK .i64 w a len bs) (hbs : ∀ z ∈ bs, -9223372036854775808 ≤ z ∧ z ≤ 9223372036854775807) :
    Calls Try.prog 3 #[.int .i64 (R : Int), .slice a len cap, .int .i64 x] w fun e w' => e = .returned (.bool true) ∧ Below w.heap.size w w' := by
  have HC := Lib.hid C
  have HRow := Lib.hid row
  have HBs := Lib.hid hbs
  clear C row hbs
  have hR0 : ¬ ((R : Int) < 0) := by omega
  have hR1 : ¬ ((256 : Int) < (R : Int)) := by omega
  go_enter Try.func3, Try.ntmps3
  go_wp2_with fail
  refine (HC.out.new _ R hR).mono ?_
  rintro e w1 ⟨g, rfl, hg, hr, hb⟩
  have HR := Lib.hid hr
  have HB := Lib.hid hb
  have hgl : g < w1.heap.size := hr.lt
  have hle : w.heap.size ≤ w1.heap.size := hb.size
  clear hr hb
  have zv := zv_ref
  have zn := zc_ne
  have zs := zc_size
  go_wp2
  go_loopw [10] (fun i wr => ∃ k : Nat, ∃ G : Nat → Int, ∃ L : Nat → Bool, k ≤ len ∧ i = .int .i64 k ∧ POk R G L ∧ wr.rowIs g T n (F R G L) ∧ wr.rowIs w1.heap.size 33 513 (poolF R G L) ∧ Below w.heap.size w wr) (fun i _ => len - (intOf i).toNat)
  case atStart => exact ⟨0, z0, n0, by omega, rfl, POk.zero hR, World.rowIs.keep HR.out (alloc_below _ _), zeros_row zc_list _ _ _, balloc HB.out _⟩
  clear zv zn zs
  case round =>
    clear HR HB
    obtain ⟨k, G, L, hk, rfl, hpok, hr, hm, hb⟩ := hrel
    have HPok := Lib.hid hpok
    have HR := Lib.hid hr
    have HM := Lib.hid hm
    have HB := Lib.hid hb
    clear hpok hr hm hb
    have hne : g ≠ w1.heap.size := by omega
    by_cases hlt : k < len
    · obtain ⟨b, off, y, rfl, hv, c0⟩ := rowK_at (rowK_keep HRow.out HB.out) hlt
      have hy := HBs.out y (List.mem_of_getElem? hv)
      clear hv
      have hk0 : (0 : Int) ≤ (k : Int) := by omega
      have hk1 : (k : Int) < (len : Int) := by omega
      by_cases hy1 : 0 < y
      · go_wp2_with fail
        refine (HC.out.take _ g R G L HPok.out HR.out).mono ?_
        rintro e u1 ⟨rfl, hr, hgr⟩
        clear c0
        replace HM := Lib.hid (grown_row HM.out hgr (Ne.symm hne))
        replace HB := Lib.hid (grown_keep hgr HB.out HB.out.size hg)
        replace HR := Lib.hid hr
        clear hr hgr
        go_wp2_with fail
        refine (ptake_any _ R G L _ hR HPok.out.gen HM.out).mono ?_
        rintro e u2 ⟨rfl, hr, hgr⟩
        replace HR := Lib.hid (grown_row HR.out hgr hne)
        replace HB := Lib.hid (grown_keep hgr HB.out HB.out.size hle)
        replace HM := Lib.hid hr
        clear hr hgr
        have HQ : Hid (POk R (G) (tkL G L R)) := Lib.hid (HPok.out.take)
        go_wp2_with fail
        refine (HC.out.all _ g R (G) (tkL G L R) HQ.out HR.out).mono ?_
        rintro e v1 ⟨pa, pcap, rfl, hrow, hb⟩
        replace HR := Lib.hid (World.rowIs.keep HR.out hb)
        replace HM := Lib.hid (World.rowIs.keep HM.out hb)
        replace HB := Lib.hid (bthen HB.out hb)
        have HA := Lib.hid hrow
        clear hb hrow
        go_wp2_with fail
        refine (pall_any _ R (G) (tkL G L R) _ HQ.out.gen HM.out).mono ?_
        rintro e v2 ⟨qa, qcap, rfl, hrow, hb⟩
        replace HR := Lib.hid (World.rowIs.keep HR.out hb)
        replace HM := Lib.hid (World.rowIs.keep HM.out hb)
        replace HB := Lib.hid (bthen HB.out hb)
        replace HA := Lib.hid (row_keep HA.out hb)
        have HA2 := Lib.hid hrow
        clear hb hrow
        go_wp2_with fail
        refine (psame_any _ _ _ _ _ _ _ _ _ HA.out HA2.out).mono ?_
        rintro e v3 ⟨rfl, hb⟩
        rw [show decide (allL (G) (tkL G L R) 256 = allL (G) (tkL G L R) 256) = true by simp]
        replace HR := Lib.hid (World.rowIs.keep HR.out hb)
        replace HM := Lib.hid (World.rowIs.keep HM.out hb)
        replace HB := Lib.hid (bthen HB.out hb)
        clear hb HA HA2
        go_wp2_with fail
        refine (HC.out.live _ g R (G) (tkL G L R) x HQ.out HR.out).mono ?_
        rintro e v4 ⟨rfl, hb⟩
        replace HR := Lib.hid (World.rowIs.keep HR.out hb)
        replace HM := Lib.hid (World.rowIs.keep HM.out hb)
        replace HB := Lib.hid (bthen HB.out hb)
        clear hb
        go_wp2_with fail
        refine (plive_any _ R (G) (tkL G L R) x _ HM.out).mono ?_
        rintro e v5 ⟨rfl, rfl⟩
        go_wp2_with fail
        refine (HC.out.len _ g R (G) (tkL G L R) HQ.out HR.out).mono ?_
        rintro e v6 ⟨rfl, hb⟩
        replace HR := Lib.hid (World.rowIs.keep HR.out hb)
        replace HM := Lib.hid (World.rowIs.keep HM.out hb)
        replace HB := Lib.hid (bthen HB.out hb)
        clear hb
        go_wp2_with fail
        refine (pall_any _ R (G) (tkL G L R) _ HQ.out.gen HM.out).mono ?_
        rintro e v7 ⟨ra, rcap, rfl, hrow, hb⟩
        replace HR := Lib.hid (World.rowIs.keep HR.out hb)
        replace HM := Lib.hid (World.rowIs.keep HM.out hb)
        replace HB := Lib.hid (bthen HB.out hb)
        clear hb hrow
        go_wp2
        go_roundw
        case rel => exact ⟨k + 1, _, _, by omega, by go_num, HQ.out, HR.out, HM.out, HB.out⟩
        case measure => simp [intOf] <;> omega
      · have hwa : IntKind.i64.wrap (y + 1) = y + 1 := IntWalk.i64_in _ (by omega)
        have hwb : IntKind.i64.wrap (-(y + 1)) = -(y + 1) := IntWalk.i64_in _ (by omega)
        go_wp2_with fail
        refine (pall_any _ R G L _ HPok.out.gen HM.out).mono ?_
        rintro e u1 ⟨sa, scap, rfl, hrow, hb⟩
        replace HR := Lib.hid (World.rowIs.keep HR.out hb)
        replace HM := Lib.hid (World.rowIs.keep HM.out hb)
        replace HB := Lib.hid (bthen HB.out hb)
        have HA := Lib.hid hrow
        have c1 := cell_keep c0 hb
        clear hb hrow c0
        have hl0 := all_len G L 256
        obtain ⟨m, hm⟩ : ∃ m, m = (allL G L 256).length := ⟨_, rfl⟩
        rw [← hm] at HA hl0
        rw [← hm]
        clear hm
        by_cases hm0 : m = 0
        · subst hm0
          go_wp2_with fail
          refine (HC.out.drop _ g R G L (-(y + 1)) HPok.out HR.out).mono ?_
          rintro e u2 ⟨rfl, hr, hgr⟩
          replace HM := Lib.hid (grown_row HM.out hgr (Ne.symm hne))
          replace HB := Lib.hid (grown_keep hgr HB.out HB.out.size hg)
          replace HR := Lib.hid hr
          clear hr hgr
          go_wp2_with fail
          refine (pdrop_any _ R G L (-(y + 1)) _ HPok.out.gen HM.out).mono ?_
          rintro e u3 ⟨rfl, hr, hgr⟩
          replace HR := Lib.hid (grown_row HR.out hgr hne)
          replace HB := Lib.hid (grown_keep hgr HB.out HB.out.size hle)
          replace HM := Lib.hid hr
          clear hr hgr
          have HQ0 := Lib.hid (HPok.out.drop (-(y + 1)))
          go_wp2_with fail
          refine (HC.out.live _ g R _ _ (-(y + 1)) HQ0.out HR.out).mono ?_
          rintro e u4 ⟨rfl, hb⟩
          rw [drop_dead]
          replace HR := Lib.hid (World.rowIs.keep HR.out hb)
          replace HM := Lib.hid (World.rowIs.keep HM.out hb)
          replace HB := Lib.hid (bthen HB.out hb)
          clear hb
          have HQ : Hid (POk R (drG G L (-(y + 1))) (drL G L (-(y + 1)))) := Lib.hid (HQ0.out)
          go_wp2_with fail
          refine (HC.out.all _ g R (drG G L (-(y + 1))) (drL G L (-(y + 1))) HQ.out HR.out).mono ?_
          rintro e v1 ⟨pa, pcap, rfl, hrow, hb⟩
          replace HR := Lib.hid (World.rowIs.keep HR.out hb)
          replace HM := Lib.hid (World.rowIs.keep HM.out hb)
          replace HB := Lib.hid (bthen HB.out hb)
          have HA := Lib.hid hrow
          clear hb hrow
          go_wp2_with fail
          refine (pall_any _ R (drG G L (-(y + 1))) (drL G L (-(y + 1))) _ HQ.out.gen HM.out).mono ?_
          rintro e v2 ⟨qa, qcap, rfl, hrow, hb⟩
          replace HR := Lib.hid (World.rowIs.keep HR.out hb)
          replace HM := Lib.hid (World.rowIs.keep HM.out hb)
          replace HB := Lib.hid (bthen HB.out hb)
          replace HA := Lib.hid (row_keep HA.out hb)
          have HA2 := Lib.hid hrow
          clear hb hrow
          go_wp2_with fail
          refine (psame_any _ _ _ _ _ _ _ _ _ HA.out HA2.out).mono ?_
          rintro e v3 ⟨rfl, hb⟩
          rw [show decide (allL (drG G L (-(y + 1))) (drL G L (-(y + 1))) 256 = allL (drG G L (-(y + 1))) (drL G L (-(y + 1))) 256) = true by simp]
          replace HR := Lib.hid (World.rowIs.keep HR.out hb)
          replace HM := Lib.hid (World.rowIs.keep HM.out hb)
          replace HB := Lib.hid (bthen HB.out hb)
          clear hb HA HA2
          go_wp2_with fail
          refine (HC.out.live _ g R (drG G L (-(y + 1))) (drL G L (-(y + 1))) x HQ.out HR.out).mono ?_
          rintro e v4 ⟨rfl, hb⟩
          replace HR := Lib.hid (World.rowIs.keep HR.out hb)
          replace HM := Lib.hid (World.rowIs.keep HM.out hb)
          replace HB := Lib.hid (bthen HB.out hb)
          clear hb
          go_wp2_with fail
          refine (plive_any _ R (drG G L (-(y + 1))) (drL G L (-(y + 1))) x _ HM.out).mono ?_
          rintro e v5 ⟨rfl, rfl⟩
          go_wp2_with fail
          refine (HC.out.len _ g R (drG G L (-(y + 1))) (drL G L (-(y + 1))) HQ.out HR.out).mono ?_
          rintro e v6 ⟨rfl, hb⟩
          replace HR := Lib.hid (World.rowIs.keep HR.out hb)
          replace HM := Lib.hid (World.rowIs.keep HM.out hb)
          replace HB := Lib.hid (bthen HB.out hb)
          clear hb
          go_wp2_with fail
          refine (pall_any _ R (drG G L (-(y + 1))) (drL G L (-(y + 1))) _ HQ.out.gen HM.out).mono ?_
          rintro e v7 ⟨ra, rcap, rfl, hrow, hb⟩
          replace HR := Lib.hid (World.rowIs.keep HR.out hb)
          replace HM := Lib.hid (World.rowIs.keep HM.out hb)
          replace HB := Lib.hid (bthen HB.out hb)
          clear hb hrow
          go_wp2
          go_roundw
          case rel => exact ⟨k + 1, _, _, by omega, by go_num, HQ.out, HR.out, HM.out, HB.out⟩
          case measure => simp [intOf] <;> omega
        · have hm1 : (0 : Int) < (m : Int) := by omega
          by_cases hy2 : -1000 < y
          · by_cases hy3 : y < 0
            · obtain ⟨d, hd, hdm⟩ : ∃ d : Nat, ((-(y + 1)).tmod (m : Int)) = (d : Int) ∧ d < m := by
                obtain ⟨yn, hyn⟩ := Int.eq_ofNat_of_zero_le (show 0 ≤ -(y + 1) by omega)
                rw [hyn]
                refine ⟨yn % m, ?_, Nat.mod_lt _ (by omega)⟩
                rw [Int.tmod_eq_emod_of_nonneg (by omega)]; omega
              obtain ⟨p, po, z, rfl, hx, cx⟩ := row_at HA.out hdm
              clear hx
              have hmz : ((m : Int) == 0) = false := by simp; omega
              have hd0 : (0 : Int) ≤ (d : Int) := by omega
              have hd1 : (d : Int) < (m : Int) := by omega
              go_wp2_with fail
              refine (HC.out.drop _ g R G L (z) HPok.out HR.out).mono ?_
              rintro e u2 ⟨rfl, hr, hgr⟩
              replace HM := Lib.hid (grown_row HM.out hgr (Ne.symm hne))
              replace HB := Lib.hid (grown_keep hgr HB.out HB.out.size hg)
              replace HR := Lib.hid hr
              clear hr hgr
              go_wp2_with fail
              refine (pdrop_any _ R G L (z) _ HPok.out.gen HM.out).mono ?_
              rintro e u3 ⟨rfl, hr, hgr⟩
              replace HR := Lib.hid (grown_row HR.out hgr hne)
              replace HB := Lib.hid (grown_keep hgr HB.out HB.out.size hle)
              replace HM := Lib.hid hr
              clear hr hgr
              have HQ0 := Lib.hid (HPok.out.drop (z))
              go_wp2_with fail
              refine (HC.out.live _ g R _ _ (z) HQ0.out HR.out).mono ?_
              rintro e u4 ⟨rfl, hb⟩
              rw [drop_dead]
              replace HR := Lib.hid (World.rowIs.keep HR.out hb)
              replace HM := Lib.hid (World.rowIs.keep HM.out hb)
              replace HB := Lib.hid (bthen HB.out hb)
              clear hb
              have HQ : Hid (POk R (drG G L (z)) (drL G L (z))) := Lib.hid (HQ0.out)
              go_wp2_with fail
              refine (HC.out.all _ g R (drG G L (z)) (drL G L (z)) HQ.out HR.out).mono ?_
              rintro e v1 ⟨pa, pcap, rfl, hrow, hb⟩
              replace HR := Lib.hid (World.rowIs.keep HR.out hb)
              replace HM := Lib.hid (World.rowIs.keep HM.out hb)
              replace HB := Lib.hid (bthen HB.out hb)
              have HA := Lib.hid hrow
              clear hb hrow
              go_wp2_with fail
              refine (pall_any _ R (drG G L (z)) (drL G L (z)) _ HQ.out.gen HM.out).mono ?_
              rintro e v2 ⟨qa, qcap, rfl, hrow, hb⟩
              replace HR := Lib.hid (World.rowIs.keep HR.out hb)
              replace HM := Lib.hid (World.rowIs.keep HM.out hb)
              replace HB := Lib.hid (bthen HB.out hb)
              replace HA := Lib.hid (row_keep HA.out hb)
              have HA2 := Lib.hid hrow
              clear hb hrow
              go_wp2_with fail
              refine (psame_any _ _ _ _ _ _ _ _ _ HA.out HA2.out).mono ?_
              rintro e v3 ⟨rfl, hb⟩
              rw [show decide (allL (drG G L (z)) (drL G L (z)) 256 = allL (drG G L (z)) (drL G L (z)) 256) = true by simp]
              replace HR := Lib.hid (World.rowIs.keep HR.out hb)
              replace HM := Lib.hid (World.rowIs.keep HM.out hb)
              replace HB := Lib.hid (bthen HB.out hb)
              clear hb HA HA2
              go_wp2_with fail
              refine (HC.out.live _ g R (drG G L (z)) (drL G L (z)) x HQ.out HR.out).mono ?_
              rintro e v4 ⟨rfl, hb⟩
              replace HR := Lib.hid (World.rowIs.keep HR.out hb)
              replace HM := Lib.hid (World.rowIs.keep HM.out hb)
              replace HB := Lib.hid (bthen HB.out hb)
              clear hb
              go_wp2_with fail
              refine (plive_any _ R (drG G L (z)) (drL G L (z)) x _ HM.out).mono ?_
              rintro e v5 ⟨rfl, rfl⟩
              go_wp2_with fail
              refine (HC.out.len _ g R (drG G L (z)) (drL G L (z)) HQ.out HR.out).mono ?_
              rintro e v6 ⟨rfl, hb⟩
              replace HR := Lib.hid (World.rowIs.keep HR.out hb)
              replace HM := Lib.hid (World.rowIs.keep HM.out hb)
              replace HB := Lib.hid (bthen HB.out hb)
              clear hb
              go_wp2_with fail
              refine (pall_any _ R (drG G L (z)) (drL G L (z)) _ HQ.out.gen HM.out).mono ?_
              rintro e v7 ⟨ra, rcap, rfl, hrow, hb⟩
              replace HR := Lib.hid (World.rowIs.keep HR.out hb)
              replace HM := Lib.hid (World.rowIs.keep HM.out hb)
              replace HB := Lib.hid (bthen HB.out hb)
              clear hb hrow
              go_wp2
              go_roundw
              case rel => exact ⟨k + 1, _, _, by omega, by go_num, HQ.out, HR.out, HM.out, HB.out⟩
              case measure => simp [intOf] <;> omega
            · have hy4 : ¬ (y < 0) := hy3
              go_wp2_with fail
              refine (HC.out.drop _ g R G L (-(y + 1)) HPok.out HR.out).mono ?_
              rintro e u2 ⟨rfl, hr, hgr⟩
              replace HM := Lib.hid (grown_row HM.out hgr (Ne.symm hne))
              replace HB := Lib.hid (grown_keep hgr HB.out HB.out.size hg)
              replace HR := Lib.hid hr
              clear hr hgr
              go_wp2_with fail
              refine (pdrop_any _ R G L (-(y + 1)) _ HPok.out.gen HM.out).mono ?_
              rintro e u3 ⟨rfl, hr, hgr⟩
              replace HR := Lib.hid (grown_row HR.out hgr hne)
              replace HB := Lib.hid (grown_keep hgr HB.out HB.out.size hle)
              replace HM := Lib.hid hr
              clear hr hgr
              have HQ0 := Lib.hid (HPok.out.drop (-(y + 1)))
              go_wp2_with fail
              refine (HC.out.live _ g R _ _ (-(y + 1)) HQ0.out HR.out).mono ?_
              rintro e u4 ⟨rfl, hb⟩
              rw [drop_dead]
              replace HR := Lib.hid (World.rowIs.keep HR.out hb)
              replace HM := Lib.hid (World.rowIs.keep HM.out hb)
              replace HB := Lib.hid (bthen HB.out hb)
              clear hb
              have HQ : Hid (POk R (drG G L (-(y + 1))) (drL G L (-(y + 1)))) := Lib.hid (HQ0.out)
              go_wp2_with fail
              refine (HC.out.all _ g R (drG G L (-(y + 1))) (drL G L (-(y + 1))) HQ.out HR.out).mono ?_
              rintro e v1 ⟨pa, pcap, rfl, hrow, hb⟩
              replace HR := Lib.hid (World.rowIs.keep HR.out hb)
              replace HM := Lib.hid (World.rowIs.keep HM.out hb)
              replace HB := Lib.hid (bthen HB.out hb)
              have HA := Lib.hid hrow
              clear hb hrow
              go_wp2_with fail
              refine (pall_any _ R (drG G L (-(y + 1))) (drL G L (-(y + 1))) _ HQ.out.gen HM.out).mono ?_
              rintro e v2 ⟨qa, qcap, rfl, hrow, hb⟩
              replace HR := Lib.hid (World.rowIs.keep HR.out hb)
              replace HM := Lib.hid (World.rowIs.keep HM.out hb)
              replace HB := Lib.hid (bthen HB.out hb)
              replace HA := Lib.hid (row_keep HA.out hb)
              have HA2 := Lib.hid hrow
              clear hb hrow
              go_wp2_with fail
              refine (psame_any _ _ _ _ _ _ _ _ _ HA.out HA2.out).mono ?_
              rintro e v3 ⟨rfl, hb⟩
              rw [show decide (allL (drG G L (-(y + 1))) (drL G L (-(y + 1))) 256 = allL (drG G L (-(y + 1))) (drL G L (-(y + 1))) 256) = true by simp]
              replace HR := Lib.hid (World.rowIs.keep HR.out hb)
              replace HM := Lib.hid (World.rowIs.keep HM.out hb)
              replace HB := Lib.hid (bthen HB.out hb)
              clear hb HA HA2
              go_wp2_with fail
              refine (HC.out.live _ g R (drG G L (-(y + 1))) (drL G L (-(y + 1))) x HQ.out HR.out).mono ?_
              rintro e v4 ⟨rfl, hb⟩
              replace HR := Lib.hid (World.rowIs.keep HR.out hb)
              replace HM := Lib.hid (World.rowIs.keep HM.out hb)
              replace HB := Lib.hid (bthen HB.out hb)
              clear hb
              go_wp2_with fail
              refine (plive_any _ R (drG G L (-(y + 1))) (drL G L (-(y + 1))) x _ HM.out).mono ?_
              rintro e v5 ⟨rfl, rfl⟩
              go_wp2_with fail
              refine (HC.out.len _ g R (drG G L (-(y + 1))) (drL G L (-(y + 1))) HQ.out HR.out).mono ?_
              rintro e v6 ⟨rfl, hb⟩
              replace HR := Lib.hid (World.rowIs.keep HR.out hb)
              replace HM := Lib.hid (World.rowIs.keep HM.out hb)
              replace HB := Lib.hid (bthen HB.out hb)
              clear hb
              go_wp2_with fail
              refine (pall_any _ R (drG G L (-(y + 1))) (drL G L (-(y + 1))) _ HQ.out.gen HM.out).mono ?_
              rintro e v7 ⟨ra, rcap, rfl, hrow, hb⟩
              replace HR := Lib.hid (World.rowIs.keep HR.out hb)
              replace HM := Lib.hid (World.rowIs.keep HM.out hb)
              replace HB := Lib.hid (bthen HB.out hb)
              clear hb hrow
              go_wp2
              go_roundw
              case rel => exact ⟨k + 1, _, _, by omega, by go_num, HQ.out, HR.out, HM.out, HB.out⟩
              case measure => simp [intOf] <;> omega
          · have hy4 : ¬ (-1000 < y) := hy2
            go_wp2_with fail
            refine (HC.out.drop _ g R G L (-(y + 1)) HPok.out HR.out).mono ?_
            rintro e u2 ⟨rfl, hr, hgr⟩
            replace HM := Lib.hid (grown_row HM.out hgr (Ne.symm hne))
            replace HB := Lib.hid (grown_keep hgr HB.out HB.out.size hg)
            replace HR := Lib.hid hr
            clear hr hgr
            go_wp2_with fail
            refine (pdrop_any _ R G L (-(y + 1)) _ HPok.out.gen HM.out).mono ?_
            rintro e u3 ⟨rfl, hr, hgr⟩
            replace HR := Lib.hid (grown_row HR.out hgr hne)
            replace HB := Lib.hid (grown_keep hgr HB.out HB.out.size hle)
            replace HM := Lib.hid hr
            clear hr hgr
            have HQ0 := Lib.hid (HPok.out.drop (-(y + 1)))
            go_wp2_with fail
            refine (HC.out.live _ g R _ _ (-(y + 1)) HQ0.out HR.out).mono ?_
            rintro e u4 ⟨rfl, hb⟩
            rw [drop_dead]
            replace HR := Lib.hid (World.rowIs.keep HR.out hb)
            replace HM := Lib.hid (World.rowIs.keep HM.out hb)
            replace HB := Lib.hid (bthen HB.out hb)
            clear hb
            have HQ : Hid (POk R (drG G L (-(y + 1))) (drL G L (-(y + 1)))) := Lib.hid (HQ0.out)
            go_wp2_with fail
            refine (HC.out.all _ g R (drG G L (-(y + 1))) (drL G L (-(y + 1))) HQ.out HR.out).mono ?_
            rintro e v1 ⟨pa, pcap, rfl, hrow, hb⟩
            replace HR := Lib.hid (World.rowIs.keep HR.out hb)
            replace HM := Lib.hid (World.rowIs.keep HM.out hb)
            replace HB := Lib.hid (bthen HB.out hb)
            have HA := Lib.hid hrow
            clear hb hrow
            go_wp2_with fail
            refine (pall_any _ R (drG G L (-(y + 1))) (drL G L (-(y + 1))) _ HQ.out.gen HM.out).mono ?_
            rintro e v2 ⟨qa, qcap, rfl, hrow, hb⟩
            replace HR := Lib.hid (World.rowIs.keep HR.out hb)
            replace HM := Lib.hid (World.rowIs.keep HM.out hb)
            replace HB := Lib.hid (bthen HB.out hb)
            replace HA := Lib.hid (row_keep HA.out hb)
            have HA2 := Lib.hid hrow
            clear hb hrow
            go_wp2_with fail
            refine (psame_any _ _ _ _ _ _ _ _ _ HA.out HA2.out).mono ?_
            rintro e v3 ⟨rfl, hb⟩
            rw [show decide (allL (drG G L (-(y + 1))) (drL G L (-(y + 1))) 256 = allL (drG G L (-(y + 1))) (drL G L (-(y + 1))) 256) = true by simp]
            replace HR := Lib.hid (World.rowIs.keep HR.out hb)
            replace HM := Lib.hid (World.rowIs.keep HM.out hb)
            replace HB := Lib.hid (bthen HB.out hb)
            clear hb HA HA2
            go_wp2_with fail
            refine (HC.out.live _ g R (drG G L (-(y + 1))) (drL G L (-(y + 1))) x HQ.out HR.out).mono ?_
            rintro e v4 ⟨rfl, hb⟩
            replace HR := Lib.hid (World.rowIs.keep HR.out hb)
            replace HM := Lib.hid (World.rowIs.keep HM.out hb)
            replace HB := Lib.hid (bthen HB.out hb)
            clear hb
            go_wp2_with fail
            refine (plive_any _ R (drG G L (-(y + 1))) (drL G L (-(y + 1))) x _ HM.out).mono ?_
            rintro e v5 ⟨rfl, rfl⟩
            go_wp2_with fail
            refine (HC.out.len _ g R (drG G L (-(y + 1))) (drL G L (-(y + 1))) HQ.out HR.out).mono ?_
            rintro e v6 ⟨rfl, hb⟩
            replace HR := Lib.hid (World.rowIs.keep HR.out hb)
            replace HM := Lib.hid (World.rowIs.keep HM.out hb)
            replace HB := Lib.hid (bthen HB.out hb)
            clear hb
            go_wp2_with fail
            refine (pall_any _ R (drG G L (-(y + 1))) (drL G L (-(y + 1))) _ HQ.out.gen HM.out).mono ?_
            rintro e v7 ⟨ra, rcap, rfl, hrow, hb⟩
            replace HR := Lib.hid (World.rowIs.keep HR.out hb)
            replace HM := Lib.hid (World.rowIs.keep HM.out hb)
            replace HB := Lib.hid (bthen HB.out hb)
            clear hb hrow
            go_wp2
            go_roundw
            case rel => exact ⟨k + 1, _, _, by omega, by go_num, HQ.out, HR.out, HM.out, HB.out⟩
            case measure => simp [intOf] <;> omega
    · skip
      clear HR HM HPok
      by_cases ho : idOk x = true
      · obtain ⟨i, q, hi, hq, hx, ht, hd⟩ := id_parts ho
        have HO := Lib.hid ho
        have HIx : Hid (∀ w', Calls Try.prog 18 #[.int .i64 x] w' fun e w'' => e = .returned (.int .i64 (i : Int)) ∧ Below w'.heap.size w' w'') := Lib.hid (fun w' => (HC.out.index w' x).mono fun _ _ ⟨he, hw⟩ => ⟨by rw [he, if_pos ho, show x % 256 = (i : Int) by omega], hw⟩)
        have HGn : Hid (∀ w', Calls Try.prog 19 #[.int .i64 x] w' fun e w'' => e = .returned (.int .i64 (q : Int)) ∧ Below w'.heap.size w' w'') := Lib.hid (fun w' => (HC.out.gen w' x).mono fun _ _ ⟨he, hw⟩ => ⟨by rw [he, if_pos ho, show x / 256 = (q : Int) by omega], hw⟩)
        have HD := Lib.hid hd
        clear ho hx hd
        go_wp2_with fail
        refine (pright_b HO.out _).mono ?_
        rintro e t1 ⟨rfl, rfl⟩
        go_wp2_with fail
        refine (HIx.out _).mono ?_
        rintro e t2 ⟨rfl, hb⟩
        replace HB := Lib.hid (bthen HB.out hb)
        clear hb
        go_wp2_with fail
        refine (HGn.out _).mono ?_
        rintro e t3 ⟨rfl, hb⟩
        replace HB := Lib.hid (bthen HB.out hb)
        clear hb
        clear ht
        have hd := HD.out
        go_wp2_with fail
        refine (HC.out.takeN _).mono ?_
        rintro e t4 ⟨rfl, hb⟩
        replace HB := Lib.hid (bthen HB.out hb)
        clear hb
        go_wp2_with fail
        refine (plalive_any HC.out _).mono ?_
        rintro e t5 ⟨rfl, hb⟩
        replace HB := Lib.hid (bthen HB.out hb)
        clear hb
        go_wp2_with fail
        refine (HC.out.dropN _ 1).mono ?_
        rintro e t6 ⟨rfl, hb⟩
        replace HB := Lib.hid (bthen HB.out hb)
        clear hb
        go_wp2_with fail
        refine (HC.out.liveN _ 1).mono ?_
        rintro e t7 ⟨rfl, hb⟩
        replace HB := Lib.hid (bthen HB.out hb)
        clear hb
        go_wp2_with fail
        refine (HC.out.allN _).mono ?_
        rintro e t8 ⟨⟨za, zcap, rfl⟩, hb⟩
        replace HB := Lib.hid (bthen HB.out hb)
        clear hb
        go_wp2_with fail
        refine (HC.out.lenN _).mono ?_
        rintro e t9 ⟨rfl, hb⟩
        replace HB := Lib.hid (bthen HB.out hb)
        clear hb
        go_wp2
        go_ret
        exact ⟨rfl, HB.out⟩
      · have ho' : idOk x = false := by simpa using ho
        have HO := Lib.hid ho'
        have HIx : Hid (∀ w', Calls Try.prog 18 #[.int .i64 x] w' fun e w'' => e = .returned (.int .i64 (-1)) ∧ Below w'.heap.size w' w'') := Lib.hid (fun w' => (HC.out.index w' x).mono fun _ _ ⟨he, hw⟩ => ⟨by rw [he, if_neg ho], hw⟩)
        have HGn : Hid (∀ w', Calls Try.prog 19 #[.int .i64 x] w' fun e w'' => e = .returned (.int .i64 (-1)) ∧ Below w'.heap.size w' w'') := Lib.hid (fun w' => (HC.out.gen w' x).mono fun _ _ ⟨he, hw⟩ => ⟨by rw [he, if_neg ho], hw⟩)
        clear ho ho'
        go_wp2_with fail
        refine (pright_b HO.out _).mono ?_
        rintro e t1 ⟨rfl, rfl⟩
        go_wp2_with fail
        refine (HIx.out _).mono ?_
        rintro e t2 ⟨rfl, hb⟩
        replace HB := Lib.hid (bthen HB.out hb)
        clear hb
        go_wp2_with fail
        refine (HGn.out _).mono ?_
        rintro e t3 ⟨rfl, hb⟩
        replace HB := Lib.hid (bthen HB.out hb)
        clear hb
        go_wp2_with fail
        refine (HC.out.takeN _).mono ?_
        rintro e t4 ⟨rfl, hb⟩
        replace HB := Lib.hid (bthen HB.out hb)
        clear hb
        go_wp2_with fail
        refine (plalive_any HC.out _).mono ?_
        rintro e t5 ⟨rfl, hb⟩
        replace HB := Lib.hid (bthen HB.out hb)
        clear hb
        go_wp2_with fail
        refine (HC.out.dropN _ 1).mono ?_
        rintro e t6 ⟨rfl, hb⟩
        replace HB := Lib.hid (bthen HB.out hb)
        clear hb
        go_wp2_with fail
        refine (HC.out.liveN _ 1).mono ?_
        rintro e t7 ⟨rfl, hb⟩
        replace HB := Lib.hid (bthen HB.out hb)
        clear hb
        go_wp2_with fail
        refine (HC.out.allN _).mono ?_
        rintro e t8 ⟨⟨za, zcap, rfl⟩, hb⟩
        replace HB := Lib.hid (bthen HB.out hb)
        clear hb
        go_wp2_with fail
        refine (HC.out.lenN _).mono ?_
        rintro e t9 ⟨rfl, hb⟩
        replace HB := Lib.hid (bthen HB.out hb)
        clear hb
        go_wp2
        go_ret
        exact ⟨rfl, HB.out⟩

end Go.Proofs.Ytiniflddgnbngaa
