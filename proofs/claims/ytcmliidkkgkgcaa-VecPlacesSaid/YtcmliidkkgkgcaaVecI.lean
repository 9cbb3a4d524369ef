/-
  What the reference's Add of layer 2 answers.
-/
import Derived.Test.YtcmliidkkgkgcaaVecH
namespace Go.Proofs.Ytcmliidkkgkgcaa
open Go.RowKit

/-- the sums so far, place by place -/
def sumsTo (vs : List V3) (k j : Nat) : Value := if j < k then .int .i64 (addV (colK j vs)) else .int .i64 0
theorem sums_step (vs : List V3) (k j : Nat) : (if j = k then Value.int .i64 (addV (colK k vs)) else sumsTo vs k j) = sumsTo vs (k + 1) j := by
  unfold sumsTo
  by_cases e : j = k
  · subst e; rw [if_pos rfl, if_pos (by omega)]
  · rw [if_neg e]
    by_cases e2 : j < k
    · rw [if_pos e2, if_pos (by omega)]
    · rw [if_neg e2, if_neg (by omega)]

set_option maxHeartbeats 1000000 in
theorem rvadd_ok (a : Option Addr) (len cap : Nat) (vs : List V3) (w : World) (hr : rightV vs = true) (h : len ≤ 1024) (row : VRow w a len vs) :
    Calls Try.prog 8 #[.slice a len cap] w fun e w' => e = .returned (.tuple #[.agg #[.int .i64 (gate (vaddE vs) (addV (col0 vs))), .int .i64 (gate (vaddE vs) (addV (col1 vs))), .int .i64 (gate (vaddE vs) (addV (col2 vs)))], .int .i64 (vaddE vs)]) ∧ Below w.heap.size w w' := by
  have HE := Lib.hid (vaddE_yes (vaddOk_yes row.1 h hr))
  have HL := Lib.hid row.1
  have HRow := Lib.hid row
  have HR := Lib.hid hr
  clear row hr
  obtain ⟨i0, hi0, hz0, hz1, hz2⟩ := info_parts f_info
  have HI := Lib.hid (And.intro hi0 (And.intro hz0 (And.intro hz1 hz2)))
  clear hi0 hz0 hz1 hz2
  go_enter Try.func8, Try.ntmps8
  go_wp2_with fail
  refine (rvright_yes HR.out (vrow_keep HRow.out (alloc_below _ _))).mono ?_
  rintro e w1 ⟨rfl, b1⟩
  have K1 := Lib.hid ((Blk.new w 25 _).keep b1)
  have B1 := Lib.hid (bthen (alloc_below _ _) b1)
  clear b1
  go_wp2
  go_loopw [6] (fun i wr => ∃ k : Nat, k ≤ 3 ∧ i = .int .i64 k ∧ (∀ j, j < k → addE (colK j vs) = 0) ∧ wr.rowIs w1.heap.size 25 3 (sumsTo vs k) ∧ BV wr w.heap.size zeroV ∧ Below w1.heap.size w1 wr ∧ w1.heap.size < wr.heap.size) (fun i _ => 3 - (intOf i).toNat)
  case atStart =>
    refine ⟨0, by omega, rfl, fun j hj => by omega, ?_, K1.out.alloc _, alloc_below _ _, by simp⟩
    refine (World.rowIs_alloc w1 _ 25 (sumsTo vs 0) (fun i hi => ?_))
    obtain rfl | rfl | rfl : i = 0 ∨ i = 1 ∨ i = 2 := by simp at hi; omega
    · rfl
    · rfl
    · rfl
  case round =>
    obtain ⟨k, hk, rfl, hz, hrow, hres, hb, hsz⟩ := hrel
    have HZ := Lib.hid hz
    have HOut := Lib.hid hrow
    have HRes := Lib.hid hres
    have HB := Lib.hid hb
    clear hz hrow hres hb
    by_cases hlt : k < 3
    · have hk3 : decide ((k : Int) < 3) = true := by simp; omega
      go_wp2
      go_loopw [7, 8] (fun v i wi => ∃ j : Nat, j ≤ len ∧ i = .int .i64 j ∧ Owns wi (w1.heap.size + 1) v j ((colK k vs).take j) ∧ wi.rowIs w1.heap.size 25 3 (sumsTo vs k) ∧ BV wi w.heap.size zeroV ∧ Below w1.heap.size w1 wi ∧ w1.heap.size < wi.heap.size) (fun _ i _ => len - (intOf i).toNat)
      case atStart => exact ⟨0, Nat.zero_le _, rfl, Owns.nil _ _, HOut.out, HRes.out, HB.out, hsz⟩
      case round =>
        obtain ⟨j, hj, rfl, hown, hrow, hres, hb, hszi⟩ := hrel
        have HOwn := Lib.hid hown
        have HOut2 := Lib.hid hrow
        have HRes2 := Lib.hid hres
        have HB2 := Lib.hid hb
        clear hown hrow hres hb
        by_cases hjl : j < len
        · obtain ⟨b, off, x, rfl, hx, cx⟩ := (vrow_keep HRow.out (bthen B1.out HB2.out)).atK hjl hlt
          have HX := Lib.hid hx
          clear hx
          go_wp2_with (at_builtin; refine wpList_append_own _ rfl (.tmp 32) (.tmp 39) 49 rfl (w1.heap.size + 1) 23 i0 (.int .i64 0) 1 8 Try.underlying49 HI.out.1 HI.out.2.1 HI.out.2.2.1 HI.out.2.2.2 rfl (by decide) _ _ _ rfl (HOwn.out.alloc _) ⟨wr.heap.size, 0, none⟩ 1 1 [.int .i64 x] rfl rfl (cell_one_new _ _ _) (by intro u hu; simp at hu; subst hu; rfl) (by unfold maxLen; omega) (by omega) (by simp; omega) ?_)
          intro v' w2 hown' hgrow _
          have HOwn' := Lib.hid hown'
          have HG := Lib.hid hgrow
          clear hown' hgrow
          go_wp2
          go_roundw
          case rel =>
            refine ⟨j + 1, by omega, by go_num, ?_, HOut2.out.of_block (grown_blk HOwn.out (by omega) HOut2.out.lt HG.out), (grown_blk HOwn.out (by have := K1.out.lt; omega) HRes2.out.lt HG.out).trans HRes2.out, grown_below HOwn.out (by omega) HB2.out (by omega) HG.out, ?_⟩
            · unfold Owns
              rw [take_snocI HX.out, List.map_append, List.map_take]
              exact HOwn'.out
            · have := HG.out.size; simp at this; omega
          case measure => simp [intOf]; omega
        · obtain ⟨pa, pcap, rfl, hprow⟩ := HOwn.out.row
          obtain rfl : j = len := by omega
          rw [List.take_of_length_le (by unfold colK; rw [List.length_map, HL.out]; exact Nat.le_refl _)] at hprow
          have HP := Lib.hid hprow
          clear hprow
          go_wp2_with fail
          refine (radd_any _ _ _ _ _ HP.out).mono ?_
          rintro e w2 ⟨rfl, rfl⟩
          by_cases he : addE (colK k vs) = 0
          · have HEk := Lib.hid he
            have he' : (addE (colK k vs) != 0) = false := by rw [he]; rfl
            clear he
            have rc := HOut2.out.cell hlt
            have rf := HOut2.out.frozen k
            unfold sumsTo at rc
            simp only [Nat.lt_irrefl, if_false] at rc
            go_wp2
            go_roundw
            case rel =>
              refine ⟨k + 1, by omega, by go_num, fun i hi => ?_, (HOut2.out.set k _).congr (fun i _ => sums_step vs k i), HRes2.out.far (by have := K1.out.lt; simp; omega) _, HB2.out.setCell (by simp) _, by simpa using hszi⟩
              by_cases e : i = k
              · rw [e]; exact HEk.out
              · exact HZ.out i (by omega)
            case measure => simp [intOf]; omega
          · have HEk := Lib.hid he
            have he' : (addE (colK k vs) != 0) = true := by simpa using he
            clear he
            obtain ⟨z0, z1, z2, g0, g1, g2⟩ := blk3 (x := .int .i64 0) (y := .int .i64 0) (z := .int .i64 0) HRes2.out
            go_wp2
            have e1 : vaddE vs = addE (colK k vs) := by rw [HE.out]; exact first3_at (e := fun j => addE (colK j vs)) hlt HZ.out HEk.out
            have e2 : ∀ v, gate (addE (colK k vs)) v = 0 := fun v => by unfold gate; rw [if_neg HEk.out]
            exact bodyPost_ret (v := .tuple #[.agg #[.int .i64 0, .int .i64 0, .int .i64 0], .int .i64 (addE (colK k vs))]) (by simp [results, Try.results8, go_sem, z0, z1, z2]) rfl ⟨by rw [e1, e2, e2, e2], bset3 (bthen B1.out HB2.out) (by omega)⟩
    · obtain rfl : k = 3 := by omega
      obtain ⟨z0, z1, z2, g0, g1, g2⟩ := blk3 (x := .int .i64 0) (y := .int .i64 0) (z := .int .i64 0) HRes.out
      have o0 : wr.cell? ⟨w1.heap.size, 0, none⟩ = some (.int .i64 (addV (col0 vs))) := HOut.out.cell (i := 0) (by omega)
      have o1 : wr.cell? ⟨w1.heap.size, 1, none⟩ = some (.int .i64 (addV (col1 vs))) := HOut.out.cell (i := 1) (by omega)
      have o2 : wr.cell? ⟨w1.heap.size, 2, none⟩ = some (.int .i64 (addV (col2 vs))) := HOut.out.cell (i := 2) (by omega)
      have e1 : vaddE vs = 0 := by rw [HE.out]; exact first3_none (e := fun j => addE (colK j vs)) HZ.out
      have HE1 := Lib.hid e1
      clear e1
      go_wp2
      exact bodyPost_ret (v := .tuple #[.agg #[.int .i64 (addV (col0 vs)), .int .i64 (addV (col1 vs)), .int .i64 (addV (col2 vs))], .int .i64 0]) (by simp [results, Try.results8, go_sem, z0, z1, z2]) rfl ⟨by rw [HE1.out, gate0, gate0, gate0], bset3 (bthen B1.out HB.out) (by omega)⟩

theorem rvadd_any (a : Option Addr) (len cap : Nat) (vs : List V3) (w : World) (row : VRow w a len vs) :
    Calls Try.prog 8 #[.slice a len cap] w fun e w' => e = .returned (.tuple #[.agg #[.int .i64 (gate (vaddE vs) (addV (col0 vs))), .int .i64 (gate (vaddE vs) (addV (col1 vs))), .int .i64 (gate (vaddE vs) (addV (col2 vs)))], .int .i64 (vaddE vs)]) ∧ Below w.heap.size w w' := by
  by_cases h : vaddOk vs = true
  · have hn : len ≤ 1024 := by
      by_cases hn : 1024 < len
      · rw [vaddOk_many row.1 hn] at h; cases h
      · omega
    have hr : rightV vs = true := by
      by_cases hr : rightV vs = true
      · exact hr
      · rw [vaddOk_wrong (by simpa using hr)] at h; cases h
    exact rvadd_ok a len cap vs w hr hn row
  · have h' : vaddOk vs = false := by simpa using h
    rw [vaddE_no h', gate1, gate1, gate1]
    exact rvadd_no a len cap vs w h' row

end Go.Proofs.Ytcmliidkkgkgcaa
