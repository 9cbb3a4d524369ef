/-
  Slices of vectors as lists; whether vectors may be, by package vec and by its reference.
-/
import Derived.Test.YthdgldoailjhhaaVecA
namespace Go.Proofs.Ythdgldoailjhhaa
open Go.RowKit

abbrev V3 := Int × Int × Int
def ok3 (x y z : Int) : Bool := rightB [x, y, z]
def okV (v : V3) : Bool := ok3 v.1 v.2.1 v.2.2
def rightV (vs : List V3) : Bool := vs.all okV
def zeroV : V3 := (0, 0, 0)

theorem cell_lt {w : World} {x : Addr} {v : Value} (h : w.cell? x = some v) : x.block < w.heap.size := by
  by_cases hb : x.block < w.heap.size
  · exact hb
  · have e : w.heap[x.block]? = none := Array.getElem?_eq_none (by omega)
    simp [World.cell?, e] at h

/-- a cell that was there is there in every later world -/
theorem cell_keep {w w' : World} {x : Addr} {v : Value} (h : w.cell? x = some v) (hb : Below w.heap.size w w') : w'.cell? x = some v := by
  rw [hb.cell (cell_lt h)]; exact h

theorem row_keep {w w' : World} {a : Option Addr} {len : Nat} {zs : List Int} (h : Row w a len zs) (hb : Below w.heap.size w w') : Row w' a len zs := by
  obtain ⟨h1, h2, h3⟩ := h
  refine ⟨h1, h2, ?_⟩
  rcases h3 with h3 | ⟨b, off, e, hc⟩
  · exact Or.inl h3
  · exact Or.inr ⟨b, off, e, fun i hi => cell_keep (hc i hi) hb⟩

/-- a slice of vectors whose elements are 'vs' -/
def VRow (w : World) (a : Option Addr) (len : Nat) (vs : List V3) : Prop :=
  vs.length = len ∧ len ≤ 9223372036854775807 ∧ (len = 0 ∨ ∃ b off, a = some ⟨b, off, none⟩ ∧ ∀ i, i < len →
    w.cell? ⟨b, off + i * 3, none⟩ = some (.int .i64 (vs.getD i zeroV).1) ∧ w.cell? ⟨b, off + i * 3 + 1, none⟩ = some (.int .i64 (vs.getD i zeroV).2.1) ∧ w.cell? ⟨b, off + i * 3 + 2, none⟩ = some (.int .i64 (vs.getD i zeroV).2.2))

theorem vrow_keep {w w' : World} {a : Option Addr} {len : Nat} {vs : List V3} (h : VRow w a len vs) (hb : Below w.heap.size w w') : VRow w' a len vs := by
  obtain ⟨h1, h2, h3⟩ := h
  refine ⟨h1, h2, ?_⟩
  rcases h3 with h3 | ⟨b, off, e, hc⟩
  · exact Or.inl h3
  · exact Or.inr ⟨b, off, e, fun i hi => ⟨cell_keep (hc i hi).1 hb, cell_keep (hc i hi).2.1 hb, cell_keep (hc i hi).2.2 hb⟩⟩

theorem VRow.at_ {w : World} {a : Option Addr} {len k : Nat} {vs : List V3} (h : VRow w a len vs) (hk : k < len) :
    ∃ b off x y z, a = some ⟨b, off, none⟩ ∧ vs[k]? = some (x, y, z) ∧ w.cell? ⟨b, off + k * 3, none⟩ = some (.int .i64 x) ∧ w.cell? ⟨b, off + k * 3 + 1, none⟩ = some (.int .i64 y) ∧ w.cell? ⟨b, off + k * 3 + 2, none⟩ = some (.int .i64 z) := by
  obtain ⟨h1, h2, h3⟩ := h
  rcases h3 with h3 | ⟨b, off, rfl, hc⟩
  · omega
  · have hk' : k < vs.length := by omega
    obtain ⟨c0, c1, c2⟩ := hc k hk
    have e : vs.getD k zeroV = vs[k] := by simp [List.getD, List.getElem?_eq_getElem hk']
    rw [e] at c0 c1 c2
    exact ⟨b, off, _, _, _, rfl, List.getElem?_eq_getElem hk', c0, c1, c2⟩

theorem rightV_succ {vs : List V3} {k : Nat} {x y z : Int} (h : vs[k]? = some (x, y, z)) (hr : rightV (vs.take k) = true) (ho : ok3 x y z = true) : rightV (vs.take (k + 1)) = true := by
  unfold rightV at hr ⊢
  rw [List.take_add_one, List.all_append, hr, h]
  simpa [okV] using ho
theorem rightV_bad {vs : List V3} {k : Nat} {x y z : Int} (h : vs[k]? = some (x, y, z)) (ho : ok3 x y z = false) : rightV vs = false := by
  unfold rightV
  rw [List.all_eq_false]
  exact ⟨(x, y, z), List.mem_of_getElem? h, by simpa [okV] using ho⟩
theorem rightV_all {vs : List V3} {k : Nat} (hr : rightV (vs.take k) = true) (h : vs.length ≤ k) : rightV vs = true := by
  rwa [List.take_of_length_le h] at hr

theorem row3 {w : World} {g : Nat} {t : TypeId} {x y z : Int} (h : Blk w g t #[.int .i64 x, .int .i64 y, .int .i64 z]) : Row w (some ⟨g, 0, none⟩) 3 [x, y, z] := by
  refine ⟨rfl, by omega, Or.inr ⟨_, _, rfl, fun i hi => ?_⟩⟩
  obtain rfl | rfl | rfl : i = 0 ∨ i = 1 ∨ i = 2 := by omega
  · exact h.cell 0
  · exact h.cell 1
  · exact h.cell 2

theorem right3_yes {w : World} {g cap : Nat} {t : TypeId} {x y z : Int} (ho : ok3 x y z = true) (h : Blk w g t #[.int .i64 x, .int .i64 y, .int .i64 z]) :
    Calls Try.prog 27 #[.slice (some ⟨g, 0, none⟩) 3 cap] w fun e w' => e = .returned (.bool true) ∧ w = w' :=
  (right_any _ 3 cap [x, y, z] w (row3 h)).mono fun _ _ ⟨he, hw⟩ => ⟨by rw [he, show rightB [x, y, z] = true from ho], hw⟩
theorem right3_no {w : World} {g cap : Nat} {t : TypeId} {x y z : Int} (ho : ok3 x y z = false) (h : Blk w g t #[.int .i64 x, .int .i64 y, .int .i64 z]) :
    Calls Try.prog 27 #[.slice (some ⟨g, 0, none⟩) 3 cap] w fun e w' => e = .returned (.bool false) ∧ w = w' :=
  (right_any _ 3 cap [x, y, z] w (row3 h)).mono fun _ _ ⟨he, hw⟩ => ⟨by rw [he, show rightB [x, y, z] = false from ho], hw⟩

set_option maxHeartbeats 400000 in
theorem vright_any (a : Option Addr) (len cap : Nat) (vs : List V3) (w : World) (row : VRow w a len vs) :
    Calls Try.prog 26 #[.slice a len cap] w fun e w' => e = .returned (.bool (rightV vs)) ∧ Below w.heap.size w w' := by
  have HL := Lib.hid row.1
  have hbig := row.2.1
  have HRow := Lib.hid row
  clear row
  go_enter Try.func26, Try.ntmps26
  go_wp2
  go_loopw [4, 7] (fun _ i wr => ∃ k : Nat, k ≤ len ∧ i = .int .i64 k ∧ rightV (vs.take k) = true ∧ Below w.heap.size w wr) (fun _ i _ => len - (intOf i).toNat)
  case atStart => exact ⟨0, Nat.zero_le _, rfl, rfl, Below.refl _ _⟩
  case round =>
    obtain ⟨k, hk, rfl, hr, hb⟩ := hrel
    have HR := Lib.hid hr
    have HB := Lib.hid hb
    clear hr hb
    by_cases hlt : k < len
    · obtain ⟨b, off, x, y, z, rfl, hv, c0, c1, c2⟩ := (vrow_keep HRow.out HB.out).at_ hlt
      have HV := Lib.hid hv
      clear hv
      by_cases ho : ok3 x y z = true
      · have HO := Lib.hid ho
        clear ho
        go_wp2_with (go_at_call 27; refine (right3_yes HO.out (Blk.new _ _ _)).mono ?_; rintro e w' ⟨rfl, rfl⟩)
        go_roundw
        case rel => exact ⟨k + 1, by omega, by go_num, rightV_succ HV.out HR.out HO.out, balloc HB.out _⟩
        case measure => simp [intOf]; omega
      · have ho' : ok3 x y z = false := by simpa using ho
        have HO := Lib.hid ho'
        clear ho ho'
        go_wp2_with (go_at_call 27; refine (right3_no HO.out (Blk.new _ _ _)).mono ?_; rintro e w' ⟨rfl, rfl⟩)
        go_ret
        exact ⟨ret_bool (rightV_bad HV.out HO.out).symm, balloc HB.out _⟩
    · go_wp2
      go_ret
      exact ⟨ret_bool (rightV_all HR.out (by rw [HL.out]; omega)).symm, HB.out⟩

end Go.Proofs.Ythdgldoailjhhaa
