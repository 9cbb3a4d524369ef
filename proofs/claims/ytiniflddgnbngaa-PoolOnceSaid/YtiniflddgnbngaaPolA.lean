/-
  A pool as a row of cells: its room, of each index the generation, and whether its name lives; what the reference's Right, Live and Take of layer 5 answer.
-/
import Derived.Test.YtiniflddgnbngaaAffB
import Derived.Deep.OwnRows
namespace Go.Proofs.Ytiniflddgnbngaa
open Go.RowKit

def upd {α : Type} (f : Nat → α) (k : Nat) (v : α) (j : Nat) : α := if j = k then v else f j
/-- the cells of a pool whose fields are the room, the generations, who lives -/
def poolF (R : Int) (G : Nat → Int) (L : Nat → Bool) (j : Nat) : Value := if j = 0 then .int .i64 R else if j < 257 then .int .i64 (G (j - 1)) else .bool (L (j - 257))
section
variable {w : World} {g : Nat} {t : TypeId} {R : Int} {G : Nat → Int} {L : Nat → Bool} {k : Nat}
theorem pool_room (h : w.rowIs g t 513 (poolF R G L)) : w.cell? ⟨g, 0, none⟩ = some (.int .i64 R) := h.cell (i := 0) (by omega)
theorem pool_gen (h : w.rowIs g t 513 (poolF R G L)) (hk : k < 256) : w.cell? ⟨g, 1 + k, none⟩ = some (.int .i64 (G k)) := by
  rw [h.cell (i := 1 + k) (by omega)]
  unfold poolF
  rw [if_neg (by omega), if_pos (by omega), show 1 + k - 1 = k by omega]
theorem pool_live (h : w.rowIs g t 513 (poolF R G L)) (hk : k < 256) : w.cell? ⟨g, 257 + k, none⟩ = some (.bool (L k)) := by
  rw [h.cell (i := 257 + k) (by omega)]
  unfold poolF
  rw [if_neg (by omega), if_neg (by omega), show 257 + k - 257 = k by omega]
theorem pool_setL (h : w.rowIs g t 513 (poolF R G L)) (hk : k < 256) (b : Bool) : (w.setCell ⟨g, 257 + k, none⟩ (.bool b)).rowIs g t 513 (poolF R G (upd L k b)) :=
  (h.set (257 + k) (.bool b)).congr fun i hi => by
    unfold poolF upd
    by_cases e : i = 257 + k
    · rw [if_pos e, if_neg (by omega), if_neg (by omega), if_pos (by omega)]
    · rw [if_neg e]
      by_cases e0 : i = 0
      · rw [if_pos e0, if_pos e0]
      · rw [if_neg e0, if_neg e0]
        by_cases e1 : i < 257
        · rw [if_pos e1, if_pos e1]
        · rw [if_neg e1, if_neg e1, if_neg (by omega)]
theorem pool_setG (h : w.rowIs g t 513 (poolF R G L)) (hk : k < 256) (x : Int) : (w.setCell ⟨g, 1 + k, none⟩ (.int .i64 x)).rowIs g t 513 (poolF R (upd G k x) L) :=
  (h.set (1 + k) (.int .i64 x)).congr fun i hi => by
    unfold poolF upd
    by_cases e : i = 1 + k
    · rw [if_pos e, if_neg (by omega), if_pos (by omega), if_pos (by omega)]
    · rw [if_neg e]
      by_cases e0 : i = 0
      · rw [if_pos e0, if_pos e0]
      · rw [if_neg e0, if_neg e0]
        by_cases e1 : i < 257
        · rw [if_pos e1, if_pos e1, if_neg (by omega)]
        · rw [if_neg e1, if_neg e1]
theorem rowIs_drew {n : Nat} {f : Nat → Value} (h : w.rowIs g t n f) : w.drew.rowIs g t n f := h
end
theorem grown_set (w : World) (g i : Nat) (u : Value) : w.grownBy (w.setCell ⟨g, i, none⟩ u) (some g) := by
  have hb := (Below.refl 0 w).setCell (p := ⟨g, i, none⟩) (Nat.zero_le _) u
  exact ⟨hb.os, hb.tape, hb.output, hb.size, fun k _ hne => Below.heap_setCell _ _ _ _ (fun e => hne (by rw [e]))⟩
theorem grown_drew {a b : World} {r : Option Nat} (h : a.grownBy b r) : a.grownBy b.drew r := ⟨h.os, h.tape, h.output, h.size, h.block⟩
theorem grown_trans {a b c : World} {r : Option Nat} (h : a.grownBy b r) (k : b.grownBy c r) : a.grownBy c r :=
  ⟨k.os.trans h.os, k.tape.trans h.tape, k.output.trans h.output, Nat.le_trans h.size k.size, fun i hi hn => (k.block i (Nat.lt_of_lt_of_le hi h.size) hn).trans (h.block i hi hn)⟩
theorem below_grown {a b : World} (h : Below a.heap.size a b) (r : Option Nat) : a.grownBy b r := ⟨h.os, h.tape, h.output, h.size, fun k hk _ => h.block k hk⟩
theorem grown_row {a b : World} {g g' : Nat} {t : TypeId} {n : Nat} {f : Nat → Value} (h : a.rowIs g t n f) (hg : a.grownBy b (some g')) (hne : g ≠ g') : b.rowIs g t n f := h.of_block (hg.block g h.lt (fun e => hne (by simpa using e)))

/-! names -/
def idOk (x : Int) : Bool := decide (0 ≤ x) && decide (x < 16777216)
/-- a name by its parts -/
def nm (g : Int) (i : Nat) : Int := 256 * g + i
theorem id_parts {x : Int} (h : idOk x = true) : ∃ i q : Nat, i < 256 ∧ q < 65536 ∧ x = 256 * (q : Int) + i ∧ x.tmod 256 = i ∧ x.tdiv 256 = q := by
  have h2 : 0 ≤ x ∧ x < 16777216 := by simpa [idOk] using h
  obtain ⟨n, rfl⟩ := Int.eq_ofNat_of_zero_le h2.1
  refine ⟨n % 256, n / 256, by omega, by omega, by omega, ?_, ?_⟩
  · rw [Int.tmod_eq_emod_of_nonneg (by omega)]; omega
  · rw [Int.tdiv_eq_ediv_of_nonneg (by omega)]; omega
def liveB (G : Nat → Int) (L : Nat → Bool) (x : Int) : Bool := idOk x && (L (x % 256).toNat && decide (G (x % 256).toNat = x / 256))
theorem live_no {G : Nat → Int} {L : Nat → Bool} {x : Int} (h : idOk x = false) : liveB G L x = false := by unfold liveB; rw [h]; rfl
theorem live_of {G : Nat → Int} {L : Nat → Bool} {i q : Nat} (hi : i < 256) (hq : q < 65536) : liveB G L (256 * (q : Int) + i) = (L i && decide (G i = (q : Int))) := by
  unfold liveB
  rw [show ((256 * (q : Int) + i) % 256).toNat = i by omega, show (256 * (q : Int) + i) / 256 = q by omega, show idOk (256 * (q : Int) + i) = true by unfold idOk; simp; omega]
  rfl
/-- whether an index may be given -/
def freeB (G : Nat → Int) (L : Nat → Bool) (i : Nat) : Bool := !L i && decide (G i ≤ 65535)
def tkI (G : Nat → Int) (L : Nat → Bool) (R : Nat) : Option Nat := (List.range R).find? (freeB G L)
def tkV (G : Nat → Int) (L : Nat → Bool) (R : Nat) : Int := match tkI G L R with | some i => nm (G i) i | none => 0
def tkE (G : Nat → Int) (L : Nat → Bool) (R : Nat) : Int := match tkI G L R with | some _ => 0 | none => 3
def tkL (G : Nat → Int) (L : Nat → Bool) (R : Nat) : Nat → Bool := match tkI G L R with | some i => upd L i true | none => L
theorem tk_some {G : Nat → Int} {L : Nat → Bool} {R k : Nat} (hk : k < R) (h : ∀ j, j < k → freeB G L j = false) (hf : freeB G L k = true) : tkI G L R = some k := by
  unfold tkI
  rw [List.find?_range_eq_some]
  exact ⟨hf, by simpa using hk, fun j hj => by rw [h j hj]; rfl⟩
theorem tk_none {G : Nat → Int} {L : Nat → Bool} {R : Nat} (h : ∀ j, j < R → freeB G L j = false) : tkI G L R = none := by
  unfold tkI
  rw [List.find?_eq_none]
  intro j hj
  rw [h j (by simpa using hj)]
  simp
theorem free_step {G : Nat → Int} {L : Nat → Bool} {k : Nat} (h : ∀ j, j < k → freeB G L j = false) (hk : freeB G L k = false) : ∀ j, j < k + 1 → freeB G L j = false := fun j hj => by
  by_cases c : j = k
  · rw [c]; exact hk
  · exact h j (by omega)
/-- generations that are no wonder -/
def GenOk (G : Nat → Int) : Prop := ∀ i, i < 256 → 0 ≤ G i ∧ G i ≤ 100000

set_option maxHeartbeats 400000 in
theorem pright_any (x : Int) (w : World) :
    Calls Try.prog 17 #[.int .i64 x] w fun e w' => e = .returned (.bool (idOk x)) ∧ w = w' := by
  unfold idOk
  by_cases h1 : 0 ≤ x
  · have g1 : decide (0 ≤ x) = true := by simpa using h1
    go_enter Try.func17, Try.ntmps17
    go_wp2
    go_ret
    exact ⟨by rw [g1]; rfl, rfl⟩
  · have g1 : decide (0 ≤ x) = false := by simpa using h1
    go_enter Try.func17, Try.ntmps17
    go_wp2
    go_ret
    exact ⟨rfl, rfl⟩
theorem pright_b {x : Int} {b : Bool} (h : idOk x = b) (w : World) :
    Calls Try.prog 17 #[.int .i64 x] w fun e w' => e = .returned (.bool b) ∧ w = w' := (pright_any x w).mono fun _ _ ⟨he, hw⟩ => ⟨by rw [he, h], hw⟩

set_option maxHeartbeats 1000000 in
theorem plive_any (g : Nat) (R : Int) (G : Nat → Int) (L : Nat → Bool) (x : Int) (w : World) (row : w.rowIs g 33 513 (poolF R G L)) :
    Calls Try.prog 15 #[.pointer (some ⟨g, 0, none⟩), .int .i64 x] w fun e w' => e = .returned (.bool (liveB G L x)) ∧ w = w' := by
  by_cases ho : idOk x = true
  · obtain ⟨i, q, hi, hq, hx, ht, hd⟩ := id_parts ho
    have HO := Lib.hid ho
    rw [show liveB G L x = (L i && decide (G i = (q : Int))) by rw [hx]; exact live_of hi hq]
    clear ho hx
    have cl := pool_live row hi
    have cg := pool_gen row hi
    clear row
    have hi0 : (0 : Int) ≤ (i : Int) := by omega
    have hi1 : (i : Int) < 256 := by omega
    obtain ⟨b, hb⟩ : ∃ b, b = L i := ⟨_, rfl⟩
    obtain ⟨y, hy⟩ : ∃ y, y = G i := ⟨_, rfl⟩
    rw [← hb] at cl
    rw [← hy] at cg
    rw [← hb, ← hy]
    clear hb hy
    cases b
    · go_enter Try.func15, Try.ntmps15
      go_wp2_with fail
      refine (pright_b HO.out _).mono ?_
      rintro e w1 ⟨rfl, rfl⟩
      go_wp2
      go_ret
      exact ⟨rfl, rfl⟩
    · go_enter Try.func15, Try.ntmps15
      go_wp2_with fail
      refine (pright_b HO.out _).mono ?_
      rintro e w1 ⟨rfl, rfl⟩
      go_wp2
      go_ret
      exact ⟨by simp; rfl, rfl⟩
  · have ho' : idOk x = false := by simpa using ho
    rw [live_no ho']
    have HO := Lib.hid ho'
    clear ho ho'
    go_enter Try.func15, Try.ntmps15
    go_wp2_with fail
    refine (pright_b HO.out _).mono ?_
    rintro e w1 ⟨rfl, rfl⟩
    go_wp2
    go_ret
    exact ⟨rfl, rfl⟩

set_option maxHeartbeats 1000000 in
theorem ptake_any (g R : Nat) (G : Nat → Int) (L : Nat → Bool) (w : World) (hR : R ≤ 256) (hG : GenOk G) (row : w.rowIs g 33 513 (poolF R G L)) :
    Calls Try.prog 8 #[.pointer (some ⟨g, 0, none⟩)] w fun e w' => e = .returned (.tuple #[.int .i64 (tkV G L R), .int .i64 (tkE G L R)]) ∧ w'.rowIs g 33 513 (poolF R G (tkL G L R)) ∧ w.grownBy w' (some g) := by
  have HRow := Lib.hid row
  have HG := Lib.hid hG
  have cr := pool_room row
  clear row hG
  go_enter Try.func8, Try.ntmps8
  go_wp2
  go_loopw [4] (fun i wr => ∃ k : Nat, k ≤ R ∧ i = .int .i64 k ∧ (∀ j, j < k → freeB G L j = false) ∧ wr = w) (fun i _ => R - (intOf i).toNat)
  case atStart => exact ⟨0, by omega, rfl, fun j hj => by omega, rfl⟩
  case round =>
    obtain ⟨k, hk, rfl, hz, rfl⟩ := hrel
    have HZ := Lib.hid hz
    clear hz
    by_cases hlt : k < R
    · have cl := pool_live HRow.out (k := k) (by omega)
      have cg := pool_gen HRow.out (k := k) (by omega)
      have fl := HRow.out.frozen (257 + k)
      have hk0 : (0 : Int) ≤ (k : Int) := by omega
      have hk1 : (k : Int) < 256 := by omega
      have hkR : (k : Int) < (R : Int) := by omega
      obtain ⟨b, hb⟩ : ∃ b, b = L k := ⟨_, rfl⟩
      obtain ⟨y, hy⟩ : ∃ y, y = G k := ⟨_, rfl⟩
      have hyb := HG.out k (by omega)
      rw [← hb] at cl
      rw [← hy] at cg hyb
      have HF : Hid (freeB G L k = (!b && decide (y ≤ 65535))) := Lib.hid (by unfold freeB; rw [hb, hy])
      have HY := Lib.hid hy
      clear hb hy
      cases b
      · by_cases hy : y ≤ 65535
        · have hw1 : IntKind.i64.wrap (256 * y) = 256 * y := IntWalk.i64_in _ (by omega)
          have hw2 : IntKind.i64.wrap (256 * y + (k : Int)) = 256 * y + (k : Int) := IntWalk.i64_in _ (by omega)
          have hgl : 1 + k ≠ 257 + k := by omega
          go_wp2
          go_ret2
          have e1 : tkI G L R = some k := tk_some hlt HZ.out (by rw [HF.out]; simpa using hy)
          have ev : tkV G L R = 256 * y + (k : Int) := by unfold tkV; rw [e1, HY.out]; rfl
          have ee : tkE G L R = 0 := by unfold tkE; rw [e1]
          refine ⟨by rw [ev, ee]; rfl, ?_, grown_set _ _ _ _⟩
          unfold tkL
          rw [e1]
          exact pool_setL HRow.out (by omega) true
        · have HZ2 := Lib.hid (free_step HZ.out (by rw [HF.out]; simpa using hy))
          go_wp2
          go_roundw
          case rel => exact ⟨k + 1, by omega, by go_num, HZ2.out, by trivial⟩
          case measure => simp [intOf] <;> omega
      · have HZ2 := Lib.hid (free_step HZ.out (by rw [HF.out]; rfl))
        go_wp2
        go_roundw
        case rel => exact ⟨k + 1, by omega, by go_num, HZ2.out, by trivial⟩
        case measure => simp [intOf] <;> omega
    · obtain rfl : k = R := by omega
      have e1 : tkI G L k = none := tk_none HZ.out
      have HE := Lib.hid e1
      clear e1
      go_wp2
      go_ret2
      have ev : tkV G L k = 0 := by unfold tkV; rw [HE.out]
      have ee : tkE G L k = 3 := by unfold tkE; rw [HE.out]
      have el : tkL G L k = L := by unfold tkL; rw [HE.out]
      exact ⟨by rw [ev, ee]; rfl, by rw [el]; exact HRow.out, World.grownBy.refl _ _⟩

/-- behind a drop -/
def drL (G : Nat → Int) (L : Nat → Bool) (x : Int) : Nat → Bool := if liveB G L x then upd L (x % 256).toNat false else L
def drG (G : Nat → Int) (L : Nat → Bool) (x : Int) : Nat → Int := if liveB G L x then upd G (x % 256).toNat (G (x % 256).toNat + 1) else G

set_option maxHeartbeats 1000000 in
theorem pdrop_any (g : Nat) (R : Int) (G : Nat → Int) (L : Nat → Bool) (x : Int) (w : World) (hG : GenOk G) (row : w.rowIs g 33 513 (poolF R G L)) :
    Calls Try.prog 11 #[.pointer (some ⟨g, 0, none⟩), .int .i64 x] w fun e w' => e = .returned (.bool (liveB G L x)) ∧ w'.rowIs g 33 513 (poolF R (drG G L x) (drL G L x)) ∧ w.grownBy w' (some g) := by
  have HRow := Lib.hid row
  clear row
  by_cases ho : liveB G L x = true
  · have hid : idOk x = true := by
      by_cases c : idOk x = true
      · exact c
      · rw [live_no (by simpa using c)] at ho; cases ho
    obtain ⟨i, q, hi, hq, hx, ht, hd⟩ := id_parts hid
    have hdL : drL G L x = upd L i false := by unfold drL; rw [if_pos ho, show (x % 256).toNat = i by omega]
    have hdG : drG G L x = upd G i (G i + 1) := by unfold drG; rw [if_pos ho, show (x % 256).toNat = i by omega]
    rw [hdL, hdG, ho]
    have HO : Hid (∀ w', w'.rowIs g 33 513 (poolF R G L) → Calls Try.prog 15 #[.pointer (some ⟨g, 0, none⟩), .int .i64 x] w' fun e w'' => e = .returned (.bool true) ∧ w' = w'') :=
      Lib.hid (fun w' hr => (plive_any g R G L x w' hr).mono fun _ _ ⟨he, hw⟩ => ⟨by rw [he, ho], hw⟩)
    have hyb := hG i hi
    clear hG ho hid hx hd hdL hdG
    have cl := pool_live HRow.out hi
    have fl := HRow.out.frozen (257 + i)
    have HRow2 := Lib.hid (pool_setL HRow.out hi false)
    have cg := pool_gen HRow2.out hi
    have fg := HRow2.out.frozen (1 + i)
    have hi0 : (0 : Int) ≤ (i : Int) := by omega
    have hi1 : (i : Int) < 256 := by omega
    obtain ⟨y, hy⟩ : ∃ y, y = G i := ⟨_, rfl⟩
    rw [← hy] at cg hyb
    rw [← hy]
    clear hy
    have hw1 : IntKind.i64.wrap (y + 1) = y + 1 := IntWalk.i64_in _ (by omega)
    go_enter Try.func11, Try.ntmps11
    go_wp2_with fail
    refine (HO.out _ HRow.out).mono ?_
    rintro e w1 ⟨rfl, rfl⟩
    go_wp2
    go_region
    go_wp2
    go_ret
    exact ⟨rfl, rowIs_drew (pool_setG HRow2.out hi _), grown_drew (grown_trans (grown_set _ _ _ _) (grown_set _ _ _ _))⟩
  · have ho' : liveB G L x = false := by simpa using ho
    have hdL : drL G L x = L := by unfold drL; rw [if_neg ho]
    have hdG : drG G L x = G := by unfold drG; rw [if_neg ho]
    rw [hdL, hdG, ho']
    have HO : Hid (∀ w', w'.rowIs g 33 513 (poolF R G L) → Calls Try.prog 15 #[.pointer (some ⟨g, 0, none⟩), .int .i64 x] w' fun e w'' => e = .returned (.bool false) ∧ w' = w'') :=
      Lib.hid (fun w' hr => (plive_any g R G L x w' hr).mono fun _ _ ⟨he, hw⟩ => ⟨by rw [he, ho'], hw⟩)
    clear ho ho' hG hdL hdG
    go_enter Try.func11, Try.ntmps11
    go_wp2_with fail
    refine (HO.out _ HRow.out).mono ?_
    rintro e w1 ⟨rfl, rfl⟩
    go_wp2
    go_ret
    exact ⟨rfl, HRow.out, World.grownBy.refl _ _⟩

end Go.Proofs.Ytiniflddgnbngaa
