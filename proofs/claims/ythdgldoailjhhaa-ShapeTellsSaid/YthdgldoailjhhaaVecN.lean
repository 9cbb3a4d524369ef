/-
  What the reference's Edge of layer 2 answers.
-/
import Derived.Test.YthdgldoailjhhaaVecK
namespace Go.Proofs.Ythdgldoailjhhaa
open Go.RowKit

def btOf (most : Bool) : Int → Int → Bool := if most then moreB else lessB
/-- the number at a place behind one more vector: the first one is taken as it is -/
def nwK (most : Bool) (i : Nat) (p x : Int) : Int := if i = 0 then x else bet (btOf most) p x
def edgeTo (most : Bool) (i : Nat) (p v : V3) (q j : Nat) : Value := if j < q then .int .i64 (nwK most i (compK j p) (compK j v)) else .int .i64 (compK j p)
theorem edge_step (most : Bool) (i : Nat) (p v : V3) (q j : Nat) : (if j = q then Value.int .i64 (nwK most i (compK q p) (compK q v)) else edgeTo most i p v q j) = edgeTo most i p v (q + 1) j := by
  unfold edgeTo
  by_cases e : j = q
  · subst e; rw [if_pos rfl, if_pos (by omega)]
  · rw [if_neg e]
    by_cases e2 : j < q
    · rw [if_pos e2, if_pos (by omega)]
    · rw [if_neg e2, if_neg (by omega)]
/-- where nothing is laid -/
theorem edge_same (most : Bool) (i : Nat) (p v : V3) (q j : Nat) (h : nwK most i (compK q p) (compK q v) = compK q p) : edgeTo most i p v q j = edgeTo most i p v (q + 1) j := by
  unfold edgeTo
  by_cases e : j = q
  · subst e; rw [if_neg (by omega), if_pos (by omega), h]
  · by_cases e2 : j < q
    · rw [if_pos e2, if_pos (by omega)]
    · rw [if_neg e2, if_neg (by omega)]

theorem pk_next {most : Bool} {vs : List V3} {i : Nat} {v : V3} (h : vs[i]? = some v) (j : Nat) (hj : j < 3) : compK j (pk (btOf most) (vs.take (i + 1))) = nwK most i (compK j (pk (btOf most) (vs.take i))) (compK j v) := by
  unfold nwK
  by_cases e : i = 0
  · subst e
    rw [if_pos rfl, pk_one h]
  · obtain ⟨k, rfl⟩ : ∃ k, i = k + 1 := ⟨i - 1, by omega⟩
    rw [if_neg e, pk_succ h]
    obtain rfl | rfl | rfl : j = 0 ∨ j = 1 ∨ j = 2 := by omega
    · rfl
    · rfl
    · rfl

def EV (p : V3) (j : Nat) : Value := .int .i64 (compK j p)
theorem nw_first (most : Bool) (p x : Int) : nwK most 0 p x = x := rfl
theorem nw_more {i : Nat} {p x : Int} (hi : i ≠ 0) (h : p < x) : nwK true i p x = x := by unfold nwK; rw [if_neg hi]; exact bet_yes (by simp [btOf, moreB]; exact h)
theorem nw_nomore {i : Nat} {p x : Int} (hi : i ≠ 0) (h : x ≤ p) : nwK true i p x = p := by unfold nwK; rw [if_neg hi]; exact bet_no (by simp [btOf, moreB]; exact h)
theorem nw_less {i : Nat} {p x : Int} (hi : i ≠ 0) (h : x < p) : nwK false i p x = x := by unfold nwK; rw [if_neg hi]; exact bet_yes (by simp [btOf, lessB]; exact h)
theorem nw_noless {i : Nat} {p x : Int} (hi : i ≠ 0) (h : p ≤ x) : nwK false i p x = p := by unfold nwK; rw [if_neg hi]; exact bet_no (by simp [btOf, lessB]; exact h)

set_option maxHeartbeats 1000000 in
theorem redge_any (most : Bool) (a : Option Addr) (len cap : Nat) (vs : List V3) (w : World) (row : VRow w a len vs) :
    Calls Try.prog 25 #[.slice a len cap, .bool most] w fun e w' => e = .returned (AGG (pk (btOf most) vs)) ∧ Below w.heap.size w w' := by
  have HL := Lib.hid row.1
  have hbig := row.2.1
  have HRow := Lib.hid row
  clear row
  go_enter Try.func25, Try.ntmps25
  go_wp2
  go_loopw [6] (fun i wr => ∃ k : Nat, k ≤ len ∧ i = .int .i64 k ∧ wr.rowIs (w.heap.size + 1) 27 3 (EV (pk (btOf most) (vs.take k))) ∧ BV wr w.heap.size zeroV ∧ Below w.heap.size w wr) (fun i _ => len - (intOf i).toNat)
  case atStart =>
    refine ⟨0, Nat.zero_le _, rfl, ?_, (Blk.new w _ _).alloc _, balloc (alloc_below _ _) _⟩
    have h := laid_start (w.alloc (.cells #[.int .i64 0, .int .i64 0, .int .i64 0] 27)) 27 (fun _ => 0)
    simp only [World.size_alloc] at h
    refine h.congr (fun i hi => ?_)
    obtain rfl | rfl | rfl : i = 0 ∨ i = 1 ∨ i = 2 := by omega
    · rfl
    · rfl
    · rfl
  case round =>
    obtain ⟨i, hi, rfl, hrow, hres, hb⟩ := hrel
    have HOut := Lib.hid hrow
    have HRes := Lib.hid hres
    have HB := Lib.hid hb
    clear hrow hres hb
    by_cases hlt : i < len
    · obtain ⟨b, off, x0, y0, z0, rfl, hv, _, _, _⟩ := HRow.out.at_ hlt
      have HV := Lib.hid hv
      clear hv
      go_wp2
      go_loopw [7] (fun s wi => ∃ q : Nat, q ≤ 3 ∧ s = .int .i64 q ∧ wi.rowIs (w.heap.size + 1) 27 3 (edgeTo most i (pk (btOf most) (vs.take i)) (x0, y0, z0) q) ∧ BV wi w.heap.size zeroV ∧ Below w.heap.size w wi) (fun s _ => 3 - (intOf s).toNat)
      case atStart => exact ⟨0, by omega, rfl, HOut.out.congr (fun j _ => rfl), HRes.out, HB.out⟩
      case round =>
        obtain ⟨q, hq, rfl, hrow, hres, hb⟩ := hrel
        have HOut2 := Lib.hid hrow
        have HRes2 := Lib.hid hres
        have HB2 := Lib.hid hb
        clear hrow hres hb
        by_cases hlq : q < 3
        · obtain ⟨b', off', x, he, hx, cx⟩ := (vrow_keep HRow.out HB2.out).atK hlt hlq
          obtain ⟨rfl, rfl⟩ : b' = b ∧ off' = off := by simp at he; exact ⟨he.1.symm, he.2.symm⟩
          have hxv : compK q (x0, y0, z0) = x := by
            have : (colK q vs)[i]? = some (compK q (x0, y0, z0)) := by unfold colK; rw [List.getElem?_map, HV.out]; rfl
            rw [this] at hx
            injection hx
          have HXV := Lib.hid hxv
          clear hx he hxv
          have cp := HOut2.out.cell hlq
          have fp := HOut2.out.frozen q
          unfold edgeTo at cp
          simp only [Nat.lt_irrefl, if_false] at cp
          obtain ⟨p, hp⟩ : ∃ p, p = compK q (pk (btOf most) (vs.take i)) := ⟨_, rfl⟩
          rw [← hp] at cp
          have HP := Lib.hid hp
          clear hp
          have hi0 : (0 : Int) ≤ (i : Int) := by omega
          have hi1 : (i : Int) < (len : Int) := by omega
          have hk0 : (0 : Int) ≤ (q : Int) := by omega
          have hk3 : (q : Int) < 3 := by omega
          by_cases hz : i = 0
          · have hz1 : ((i : Int) == 0) = true := by simp; omega
            have HZ := Lib.hid hz
            clear hz
            go_wp2
            go_quiet (fail)
            go_wp2
            go_roundw
            case rel =>
              have hn : nwK most i (compK q (pk (btOf most) (vs.take i))) (compK q (x0, y0, z0)) = x := by rw [HXV.out, HZ.out]; rfl
              exact ⟨q + 1, by omega, by go_num, ((rowIs_drewN HOut2.out nq).set q (.int .i64 x)).congr (fun j _ => by rw [← hn]; exact edge_step _ _ _ _ _ _), Blk.far (Blk.drewN HRes2.out nq) (by simp) _, (Go.below_drewN HB2.out nq).setCell (by simp) _⟩
            case measure => simp [intOf]; omega
          · have hz1 : ((i : Int) == 0) = false := by simp; omega
            have HZ := Lib.hid hz
            clear hz
            cases most with
            | true =>
              by_cases hc : p < x
              · have hc1 : decide (p < x) = true := by simpa using hc
                go_wp2
                go_quiet (fail)
                go_wp2
                go_roundw
                case rel =>
                  have hn : nwK true i (compK q (pk (btOf true) (vs.take i))) (compK q (x0, y0, z0)) = x := by rw [HXV.out, ← HP.out]; exact nw_more HZ.out hc
                  exact ⟨q + 1, by omega, by go_num, ((rowIs_drewN HOut2.out nq).set q (.int .i64 x)).congr (fun j _ => by rw [← hn]; exact edge_step _ _ _ _ _ _), Blk.far (Blk.drewN HRes2.out nq) (by simp) _, (Go.below_drewN HB2.out nq).setCell (by simp) _⟩
                case measure => simp [intOf]; omega
              · have hc1 : decide (p < x) = false := by simpa using hc
                go_wp2
                go_quiet (fail)
                go_wp2
                go_roundw
                case rel =>
                  have hn : nwK true i (compK q (pk (btOf true) (vs.take i))) (compK q (x0, y0, z0)) = compK q (pk (btOf true) (vs.take i)) := by rw [HXV.out, ← HP.out]; exact nw_nomore HZ.out (by omega)
                  exact ⟨q + 1, by omega, by go_num, (rowIs_drewN HOut2.out nq).congr (fun j _ => edge_same _ _ _ _ _ _ hn), Blk.drewN HRes2.out nq, Go.below_drewN HB2.out nq⟩
                case measure => simp [intOf]; omega
            | false =>
              by_cases hc : x < p
              · have hc1 : decide (x < p) = true := by simpa using hc
                go_wp2
                go_quiet (fail)
                go_wp2
                go_roundw
                case rel =>
                  have hn : nwK false i (compK q (pk (btOf false) (vs.take i))) (compK q (x0, y0, z0)) = x := by rw [HXV.out, ← HP.out]; exact nw_less HZ.out hc
                  exact ⟨q + 1, by omega, by go_num, ((rowIs_drewN HOut2.out nq).set q (.int .i64 x)).congr (fun j _ => by rw [← hn]; exact edge_step _ _ _ _ _ _), Blk.far (Blk.drewN HRes2.out nq) (by simp) _, (Go.below_drewN HB2.out nq).setCell (by simp) _⟩
                case measure => simp [intOf]; omega
              · have hc1 : decide (x < p) = false := by simpa using hc
                go_wp2
                go_quiet (fail)
                go_wp2
                go_roundw
                case rel =>
                  have hn : nwK false i (compK q (pk (btOf false) (vs.take i))) (compK q (x0, y0, z0)) = compK q (pk (btOf false) (vs.take i)) := by rw [HXV.out, ← HP.out]; exact nw_noless HZ.out (by omega)
                  exact ⟨q + 1, by omega, by go_num, (rowIs_drewN HOut2.out nq).congr (fun j _ => edge_same _ _ _ _ _ _ hn), Blk.drewN HRes2.out nq, Go.below_drewN HB2.out nq⟩
                case measure => simp [intOf]; omega
        · obtain rfl : q = 3 := by omega
          go_wp2
          go_roundw
          case rel => exact ⟨i + 1, by omega, by go_num, HOut2.out.congr (fun j hj => by unfold EV edgeTo; rw [if_pos hj, pk_next HV.out j hj]), HRes2.out, HB2.out⟩
          case measure => simp [intOf]; omega
    · obtain ⟨⟨p0, p1, p2⟩, hp⟩ : ∃ p, p = pk (btOf most) (vs.take i) := ⟨_, rfl⟩
      rw [← hp] at HOut
      rw [pk_all (by rw [HL.out]; omega)] at hp
      have HP := Lib.hid hp
      clear hp
      have o0 : wr.cell? ⟨w.heap.size + 1, 0, none⟩ = some (.int .i64 p0) := HOut.out.cell (i := 0) (by omega)
      have o1 : wr.cell? ⟨w.heap.size + 1, 1, none⟩ = some (.int .i64 p1) := HOut.out.cell (i := 1) (by omega)
      have o2 : wr.cell? ⟨w.heap.size + 1, 2, none⟩ = some (.int .i64 p2) := HOut.out.cell (i := 2) (by omega)
      obtain ⟨z0, z1, z2, g0, g1, g2⟩ := blk3 (x := .int .i64 0) (y := .int .i64 0) (z := .int .i64 0) HRes.out
      go_wp2
      exact bodyPost_ret (v := .agg #[.int .i64 p0, .int .i64 p1, .int .i64 p2]) (by simp [results, Try.results25, go_sem, z0, z1, z2]) rfl ⟨by rw [← HP.out]; rfl, bset3 HB.out (by omega)⟩

end Go.Proofs.Ythdgldoailjhhaa
