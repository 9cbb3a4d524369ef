/-
  6 texts in one file, each with its own heading.
-/
import Derived.Test.YtcpgkkphibhdfaaGreatMAff
import Derived.Deep.OwnRows
import Derived.Deep.QuietTactic
import Derived.Maps.AppendAt
/-
  A pool as a row of cells: its room, of each index the generation, and whether its name lives; what the reference's Right, Live and Take of layer 5 answer.
-/
namespace Go.Proofs.YtcpgkkphibhdfaaGreat
open Go.RowKit

def upd {α : Type} (f : Nat → α) (k : Nat) (v : α) (j : Nat) : α := if j = k then v else f j
/-- the cells of a pool whose fields are the room, the generations, who lives -/
def poolF (R : Int) (G : Nat → Int) (L : Nat → Bool) (j : Nat) : Value := if j = 0 then .int .i64 R else if j < 257 then .int .i64 (G (j - 1)) else .bool (L (j - 257))
section
variable {w : World} {g : Nat} {t : TypeId} {R : Int} {G : Nat → Int} {L : Nat → Bool} {k : Nat}
theorem pool_room (h : w.rowIs g t 513 (poolF R G L)) : w.cell? ⟨g, 0, none⟩ = some (.int .i64 R) := h.cell (i := 0) (by omega)
theorem pool_gen (h : w.rowIs g t 513 (poolF R G L)) (hk : k < 256) : w.cell? ⟨g, 1 + k, none⟩ = some (.int .i64 (G k)) := by
  rw [h.cell (i := 1 + k) (by omega)]
  unfold poolF
  rw [if_neg (by omega), if_pos (by omega), show 1 + k - 1 = k by omega]
theorem pool_live (h : w.rowIs g t 513 (poolF R G L)) (hk : k < 256) : w.cell? ⟨g, 257 + k, none⟩ = some (.bool (L k)) := by
  rw [h.cell (i := 257 + k) (by omega)]
  unfold poolF
  rw [if_neg (by omega), if_neg (by omega), show 257 + k - 257 = k by omega]
theorem pool_setL (h : w.rowIs g t 513 (poolF R G L)) (hk : k < 256) (b : Bool) : (w.setCell ⟨g, 257 + k, none⟩ (.bool b)).rowIs g t 513 (poolF R G (upd L k b)) :=
  (h.set (257 + k) (.bool b)).congr fun i hi => by
    unfold poolF upd
    by_cases e : i = 257 + k
    · rw [if_pos e, if_neg (by omega), if_neg (by omega), if_pos (by omega)]
    · rw [if_neg e]
      by_cases e0 : i = 0
      · rw [if_pos e0, if_pos e0]
      · rw [if_neg e0, if_neg e0]
        by_cases e1 : i < 257
        · rw [if_pos e1, if_pos e1]
        · rw [if_neg e1, if_neg e1, if_neg (by omega)]
theorem pool_setG (h : w.rowIs g t 513 (poolF R G L)) (hk : k < 256) (x : Int) : (w.setCell ⟨g, 1 + k, none⟩ (.int .i64 x)).rowIs g t 513 (poolF R (upd G k x) L) :=
  (h.set (1 + k) (.int .i64 x)).congr fun i hi => by
    unfold poolF upd
    by_cases e : i = 1 + k
    · rw [if_pos e, if_neg (by omega), if_pos (by omega), if_pos (by omega)]
    · rw [if_neg e]
      by_cases e0 : i = 0
      · rw [if_pos e0, if_pos e0]
      · rw [if_neg e0, if_neg e0]
        by_cases e1 : i < 257
        · rw [if_pos e1, if_pos e1, if_neg (by omega)]
        · rw [if_neg e1, if_neg e1]
theorem rowIs_drew {n : Nat} {f : Nat → Value} (h : w.rowIs g t n f) : w.drew.rowIs g t n f := h
end
theorem grown_set (w : World) (g i : Nat) (u : Value) : w.grownBy (w.setCell ⟨g, i, none⟩ u) (some g) := by
  have hb := (Below.refl 0 w).setCell (p := ⟨g, i, none⟩) (Nat.zero_le _) u
  exact ⟨hb.os, hb.tape, hb.output, hb.size, fun k _ hne => Below.heap_setCell _ _ _ _ (fun e => hne (by rw [e]))⟩
theorem grown_drew {a b : World} {r : Option Nat} (h : a.grownBy b r) : a.grownBy b.drew r := ⟨h.os, h.tape, h.output, h.size, h.block⟩
theorem grown_trans {a b c : World} {r : Option Nat} (h : a.grownBy b r) (k : b.grownBy c r) : a.grownBy c r :=
  ⟨k.os.trans h.os, k.tape.trans h.tape, k.output.trans h.output, Nat.le_trans h.size k.size, fun i hi hn => (k.block i (Nat.lt_of_lt_of_le hi h.size) hn).trans (h.block i hi hn)⟩
theorem below_grown {a b : World} (h : Below a.heap.size a b) (r : Option Nat) : a.grownBy b r := ⟨h.os, h.tape, h.output, h.size, fun k hk _ => h.block k hk⟩
/-! names -/
def idOk (x : Int) : Bool := decide (0 ≤ x) && decide (x < 16777216)
/-- a name by its parts -/
def nm (g : Int) (i : Nat) : Int := 256 * g + i
theorem id_parts {x : Int} (h : idOk x = true) : ∃ i q : Nat, i < 256 ∧ q < 65536 ∧ x = 256 * (q : Int) + i ∧ x.tmod 256 = i ∧ x.tdiv 256 = q := by
  have h2 : 0 ≤ x ∧ x < 16777216 := by simpa [idOk] using h
  obtain ⟨n, rfl⟩ := Int.eq_ofNat_of_zero_le h2.1
  refine ⟨n % 256, n / 256, by omega, by omega, by omega, ?_, ?_⟩
  · rw [Int.tmod_eq_emod_of_nonneg (by omega)]; omega
  · rw [Int.tdiv_eq_ediv_of_nonneg (by omega)]; omega
def liveB (G : Nat → Int) (L : Nat → Bool) (x : Int) : Bool := idOk x && (L (x % 256).toNat && decide (G (x % 256).toNat = x / 256))
theorem live_no {G : Nat → Int} {L : Nat → Bool} {x : Int} (h : idOk x = false) : liveB G L x = false := by unfold liveB; rw [h]; rfl
theorem live_of {G : Nat → Int} {L : Nat → Bool} {i q : Nat} (hi : i < 256) (hq : q < 65536) : liveB G L (256 * (q : Int) + i) = (L i && decide (G i = (q : Int))) := by
  unfold liveB
  rw [show ((256 * (q : Int) + i) % 256).toNat = i by omega, show (256 * (q : Int) + i) / 256 = q by omega, show idOk (256 * (q : Int) + i) = true by unfold idOk; simp; omega]
  rfl
/-- whether an index may be given -/
def freeB (G : Nat → Int) (L : Nat → Bool) (i : Nat) : Bool := !L i && decide (G i ≤ 65535)
def tkI (G : Nat → Int) (L : Nat → Bool) (R : Nat) : Option Nat := (List.range R).find? (freeB G L)
def tkV (G : Nat → Int) (L : Nat → Bool) (R : Nat) : Int := match tkI G L R with | some i => nm (G i) i | none => 0
def tkE (G : Nat → Int) (L : Nat → Bool) (R : Nat) : Int := match tkI G L R with | some _ => 0 | none => 3
def tkL (G : Nat → Int) (L : Nat → Bool) (R : Nat) : Nat → Bool := match tkI G L R with | some i => upd L i true | none => L
theorem tk_some {G : Nat → Int} {L : Nat → Bool} {R k : Nat} (hk : k < R) (h : ∀ j, j < k → freeB G L j = false) (hf : freeB G L k = true) : tkI G L R = some k := by
  unfold tkI
  rw [List.find?_range_eq_some]
  exact ⟨hf, by simpa using hk, fun j hj => by rw [h j hj]; rfl⟩
theorem tk_none {G : Nat → Int} {L : Nat → Bool} {R : Nat} (h : ∀ j, j < R → freeB G L j = false) : tkI G L R = none := by
  unfold tkI
  rw [List.find?_eq_none]
  intro j hj
  rw [h j (by simpa using hj)]
  simp
theorem free_step {G : Nat → Int} {L : Nat → Bool} {k : Nat} (h : ∀ j, j < k → freeB G L j = false) (hk : freeB G L k = false) : ∀ j, j < k + 1 → freeB G L j = false := fun j hj => by
  by_cases c : j = k
  · rw [c]; exact hk
  · exact h j (by omega)
/-- generations that are no wonder -/
def GenOk (G : Nat → Int) : Prop := ∀ i, i < 256 → 0 ≤ G i ∧ G i ≤ 100000

set_option maxHeartbeats 400000 in
theorem plright_any (x : Int) (w : World) :
    Calls Tryz.prog 96 #[.int .i64 x] w fun e w' => e = .returned (.bool (idOk x)) ∧ w = w' := by
  unfold idOk
  by_cases h1 : 0 ≤ x
  · have g1 : decide (0 ≤ x) = true := by simpa using h1
    go_enter Tryz.func96, Tryz.ntmps96
    go_wp2
    go_ret
    exact ⟨by rw [g1]; rfl, rfl⟩
  · have g1 : decide (0 ≤ x) = false := by simpa using h1
    go_enter Tryz.func96, Tryz.ntmps96
    go_wp2
    go_ret
    exact ⟨rfl, rfl⟩
theorem plright_b {x : Int} {b : Bool} (h : idOk x = b) (w : World) :
    Calls Tryz.prog 96 #[.int .i64 x] w fun e w' => e = .returned (.bool b) ∧ w = w' := (plright_any x w).mono fun _ _ ⟨he, hw⟩ => ⟨by rw [he, h], hw⟩

/-- behind a drop -/
def drL (G : Nat → Int) (L : Nat → Bool) (x : Int) : Nat → Bool := if liveB G L x then upd L (x % 256).toNat false else L
def drG (G : Nat → Int) (L : Nat → Bool) (x : Int) : Nat → Int := if liveB G L x then upd G (x % 256).toNat (G (x % 256).toNat + 1) else G

end Go.Proofs.YtcpgkkphibhdfaaGreat
/-
  What the reference's All, Same and Has of layer 5 answer.
-/
namespace Go.Proofs.YtcpgkkphibhdfaaGreat
open Go.RowKit

/-- the names that live, of the first k indexes -/
def allL (G : Nat → Int) (L : Nat → Bool) (k : Nat) : List Int := ((List.range k).filter L).map fun i => nm (G i) i
theorem all_yes {G : Nat → Int} {L : Nat → Bool} {k : Nat} (h : L k = true) : allL G L (k + 1) = allL G L k ++ [nm (G k) k] := by
  unfold allL; rw [List.range_succ, List.filter_append, List.map_append]; simp [h]
theorem all_no {G : Nat → Int} {L : Nat → Bool} {k : Nat} (h : L k = false) : allL G L (k + 1) = allL G L k := by
  unfold allL; rw [List.range_succ, List.filter_append, List.map_append]; simp [h]
theorem all_len (G : Nat → Int) (L : Nat → Bool) (k : Nat) : (allL G L k).length ≤ k := by
  unfold allL; rw [List.length_map]; exact Nat.le_trans (List.length_filter_le _ _) (by simp)

/-- names that the call itself appends -/
def OwnD (w : World) (base : Nat) (v : Value) (n : Nat) (zs : List Int) : Prop := w.ownsRow base 35 1 v n (zs.map (Value.int .i64))
theorem id_info : (Tryz.prog.info? 35).map (fun i => (i.zero, i.size, i.bytes)) = some (some (.int .i64 0), 1, 8) := by kernel_rfl
theorem OwnD.nil (w : World) (base : Nat) : OwnD w base (.slice none 0 0) 0 [] := World.ownsRow_nil _ _ _ _
theorem OwnD.row {w : World} {base : Nat} {v : Value} {n : Nat} {zs : List Int} (h : OwnD w base v n zs) : ∃ a cap, v = .slice a n cap ∧ Row w a n zs := by
  have hl : zs.length = n := by simpa using h.1
  rcases h.2 with ⟨rfl, rfl⟩ | ⟨g, cap, cur, rfl, hb, hh, hnc, hm, hs, ht⟩
  · exact ⟨none, 0, rfl, hl, by omega, Or.inl rfl⟩
  · unfold maxLen at hm
    refine ⟨_, cap, rfl, hl, by omega, Or.inr ⟨g, 0, rfl, fun i hi => ?_⟩⟩
    rw [Nat.zero_add]
    have hi' : i < (zs.map (Value.int .i64)).length := by rw [List.length_map]; omega
    have hc := World.ownsRow.cellAt (j := i) h (by omega)
    rw [hc]
    simp [List.getD, List.getElem?_eq_getElem (show i < zs.length by omega)]
theorem grownD_below {w0 wr w' : World} {base B : Nat} {v : Value} {n : Nat} {zs : List Int} {o : Obj} (ho : OwnD wr base v n zs) (hB : B ≤ base) (hb : Below B w0 wr) (hs : B ≤ wr.heap.size) (hg : (wr.alloc o).grownBy w' v.ownBlock) : Below B w0 w' :=
  (hb.alloc hs o).grown hg (by simp; omega) (fun k hk => by have := World.ownsRow.lt ho k hk; omega)

theorem row_at {w : World} {a : Option Addr} {len : Nat} {zs : List Int} (h : Row w a len zs) {k : Nat} (hk : k < len) : ∃ b off x, a = some ⟨b, off, none⟩ ∧ zs[k]? = some x ∧ w.cell? ⟨b, off + k, none⟩ = some (.int .i64 x) := by
  obtain ⟨h1, h2, h3⟩ := h
  rcases h3 with h3 | ⟨b, off, rfl, hc⟩
  · omega
  · have hk' : k < zs.length := by omega
    have c := hc k hk
    rw [show zs.getD k 0 = zs[k] by simp [List.getD, List.getElem?_eq_getElem hk']] at c
    exact ⟨b, off, _, rfl, List.getElem?_eq_getElem hk', c⟩

set_option maxHeartbeats 1000000 in
theorem plhas_any (a : Option Addr) (len cap : Nat) (zs : List Int) (x : Int) (w : World) (row : Row w a len zs) :
    Calls Tryz.prog 24 #[.slice a len cap, .int .i64 x] w fun e w' => e = .returned (.bool (decide (x ∈ zs))) ∧ w = w' := by
  have HL := Lib.hid row.1
  have hbig := row.2.1
  have HRow := Lib.hid row
  clear row
  go_enter Tryz.func24, Tryz.ntmps24
  go_wp2
  go_loopw [5] (fun i wr => ∃ k : Nat, k ≤ len ∧ i = .int .i64 k ∧ (x ∉ zs.take k) ∧ wr = w) (fun i _ => len - (intOf i).toNat)
  case atStart => exact ⟨0, by omega, rfl, by simp, rfl⟩
  case round =>
    obtain ⟨k, hk, rfl, hz, rfl⟩ := hrel
    have HZ := Lib.hid hz
    clear hz
    by_cases hlt : k < len
    · obtain ⟨b, off, y, rfl, hv, c0⟩ := row_at HRow.out hlt
      have HV := Lib.hid hv
      clear hv
      have hk0 : (0 : Int) ≤ (k : Int) := by omega
      have hk1 : (k : Int) < (len : Int) := by omega
      by_cases he : y = x
      · have ge : (y == x) = true := by rw [he]; simp
        have HE := Lib.hid he
        clear he
        go_wp2
        go_ret
        exact ⟨by rw [show decide (x ∈ zs) = true by rw [← HE.out]; simpa using List.mem_of_getElem? HV.out]; rfl, rfl⟩
      · have ge : (y == x) = false := by simpa using he
        have HE := Lib.hid (show x ∉ zs.take (k + 1) by
          rw [List.take_add_one, HV.out]
          simp only [Option.toList_some, List.mem_append, List.mem_singleton, not_or]
          exact ⟨HZ.out, fun e => he e.symm⟩)
        clear he
        go_wp2
        go_roundw
        case rel => exact ⟨k + 1, by omega, by go_num, HE.out, by trivial⟩
        case measure => simp [intOf] <;> omega
    · obtain rfl : k = len := by omega
      have e1 := HZ.out
      rw [List.take_of_length_le (by rw [HL.out]; exact Nat.le_refl _)] at e1
      have HE := Lib.hid e1
      clear e1
      go_wp2
      go_ret
      exact ⟨by rw [show decide (x ∈ zs) = false by simpa using HE.out]; rfl, rfl⟩

set_option maxHeartbeats 1000000 in
theorem psame_any (a b : Option Addr) (n m cap cap' : Nat) (xs ys : List Int) (w : World) (row : Row w a n xs) (row' : Row w b m ys) :
    Calls Tryz.prog 25 #[.slice a n cap, .slice b m cap'] w fun e w' => e = .returned (.bool (decide (xs = ys))) ∧ Below w.heap.size w w' := by
  have HL := Lib.hid (And.intro row.1 row'.1)
  have hbig := row.2.1
  have HRow := Lib.hid row
  have HRow' := Lib.hid row'
  clear row row'
  by_cases hnm : n = m
  · subst hnm
    go_enter Tryz.func25, Tryz.ntmps25
    go_wp2
    go_loopw [5] (fun i wr => ∃ k : Nat, k ≤ n ∧ i = .int .i64 k ∧ xs.take k = ys.take k ∧ Below w.heap.size w wr) (fun i _ => n - (intOf i).toNat)
    case atStart => exact ⟨0, by omega, rfl, by simp, Below.refl _ _⟩
    case round =>
      obtain ⟨k, hk, rfl, hz, hb⟩ := hrel
      have HZ := Lib.hid hz
      have HB := Lib.hid hb
      clear hz hb
      by_cases hlt : k < n
      · obtain ⟨p, off, x, rfl, hv, c0⟩ := row_at (row_keep HRow.out HB.out) hlt
        obtain ⟨p', off', y, rfl, hv', c1⟩ := row_at (row_keep HRow'.out HB.out) hlt
        have HV := Lib.hid (And.intro hv hv')
        clear hv hv'
        have hk0 : (0 : Int) ≤ (k : Int) := by omega
        have hk1 : (k : Int) < (n : Int) := by omega
        by_cases he : x = y
        · have HE := Lib.hid (show xs.take (k + 1) = ys.take (k + 1) by rw [List.take_add_one, List.take_add_one, HV.out.1, HV.out.2, HZ.out, he])
          subst he
          go_wp2
          go_quiet (fail)
          go_wp2
          go_roundw
          case rel => exact ⟨k + 1, by omega, by go_num, HE.out, Go.below_drewN HB.out nq⟩
          case measure => simp [intOf] <;> omega
        · have ge : (x != y) = true := by simpa using he
          have HE := Lib.hid (show xs ≠ ys from fun e => he (by have h1 := HV.out.1; rw [e, HV.out.2] at h1; exact (Option.some.inj h1).symm))
          clear he
          go_wp2
          go_quiet (fail)
          go_wp2
          go_ret
          exact ⟨by rw [show decide (xs = ys) = false by simpa using HE.out]; rfl, Go.below_drewN HB.out nq⟩
      · obtain rfl : k = n := by omega
        have e1 := HZ.out
        rw [List.take_of_length_le (by rw [HL.out.1]; exact Nat.le_refl _), List.take_of_length_le (by rw [HL.out.2]; exact Nat.le_refl _)] at e1
        have HE := Lib.hid e1
        clear e1
        go_wp2
        go_ret
        exact ⟨by rw [show decide (xs = ys) = true by simpa using HE.out]; rfl, HB.out⟩
  · have gn : ((n : Int) != (m : Int)) = true := by simp; omega
    have HE := Lib.hid (show xs ≠ ys from fun e => hnm (by rw [← HL.out.1, ← HL.out.2, e]))
    clear hnm
    go_enter Tryz.func25, Tryz.ntmps25
    go_wp2
    go_ret
    exact ⟨by rw [show decide (xs = ys) = false by simpa using HE.out]; rfl, Below.refl _ _⟩

end Go.Proofs.YtcpgkkphibhdfaaGreat
/-
  What a pool keeps; what the calls of package pool are to answer, as one bundle (its memory is one block of n cells); the laws' own live question of layer 5.
-/
namespace Go.Proofs.YtcpgkkphibhdfaaGreat
open Go.RowKit

def z0 : Nat → Int := fun _ => 0
def n0 : Nat → Bool := fun _ => false
/-- the cells of a pool of no room where none lives (a seat that is loaded whole has no name for a zero value of so many cells) -/
def zcells : Array Value := ((List.range 513).map (poolF 0 z0 n0)).toArray
theorem to_list (l : List Value) : l.toArray.toList = l := rfl
theorem zc_list : zcells.toList = (List.range 513).map (poolF 0 z0 n0) := by unfold zcells; exact to_list _
theorem zc_size : zcells.size = 513 := by unfold zcells; simp
theorem zc_ne : ¬ zcells = #[] := by intro e; have h := zc_size; rw [e] at h; cases h
theorem zv_pool (w : World) : (zeroValue 119).run Tryz.prog w = .ok (.agg zcells) w := by kernel_rfl
/-- what holds of every pool -/
def POk (R : Nat) (G : Nat → Int) (L : Nat → Bool) : Prop := R ≤ 256 ∧ (∀ i, 0 ≤ G i ∧ G i ≤ 65536) ∧ ∀ i, L i = true → i < R ∧ G i ≤ 65535
theorem POk.gen {R : Nat} {G : Nat → Int} {L : Nat → Bool} (h : POk R G L) : GenOk G := fun i _ => by have := h.2.1 i; omega
theorem POk.zero {R : Nat} (h : R ≤ 256) : POk R z0 n0 := ⟨h, fun i => by unfold z0; omega, fun i hi => by cases hi⟩
theorem tk_spec {G : Nat → Int} {L : Nat → Bool} {R i : Nat} (h : tkI G L R = some i) : i < R ∧ L i = false ∧ G i ≤ 65535 := by
  unfold tkI at h
  have h1 := List.find?_some h
  have h2 := List.mem_of_find?_eq_some h
  unfold freeB at h1
  simp at h1 h2
  exact ⟨h2, h1.1, h1.2⟩
theorem POk.take {R : Nat} {G : Nat → Int} {L : Nat → Bool} (h : POk R G L) : POk R G (tkL G L R) := by
  unfold tkL
  cases e : tkI G L R with
  | none => exact h
  | some i =>
    obtain ⟨hi, _, hg⟩ := tk_spec e
    refine ⟨h.1, h.2.1, fun j hj => ?_⟩
    unfold upd at hj
    by_cases c : j = i
    · rw [c]; exact ⟨hi, hg⟩
    · simp only [if_neg c] at hj; exact h.2.2 j hj
theorem live_spec {G : Nat → Int} {L : Nat → Bool} {x : Int} (h : liveB G L x = true) : ∃ i : Nat, i < 256 ∧ (x % 256).toNat = i ∧ L i = true ∧ x = nm (G i) i := by
  unfold liveB at h
  have h3 : idOk x = true ∧ L (x % 256).toNat = true ∧ G (x % 256).toNat = x / 256 := by simpa using h
  refine ⟨_, by omega, rfl, h3.2.1, ?_⟩
  rw [h3.2.2]
  unfold nm
  omega
theorem POk.drop {R : Nat} {G : Nat → Int} {L : Nat → Bool} (h : POk R G L) (x : Int) : POk R (drG G L x) (drL G L x) := by
  unfold drG drL
  by_cases c : liveB G L x = true
  · rw [if_pos c, if_pos c]
    obtain ⟨i, _, e, hl, _⟩ := live_spec c
    rw [e]
    refine ⟨h.1, fun j => ?_, fun j hj => ?_⟩
    · unfold upd
      by_cases d : j = i
      · simp only [if_pos d]
        have := h.2.1 i
        have := h.2.2 i hl
        omega
      · simp only [if_neg d]; exact h.2.1 j
    · unfold upd at hj ⊢
      by_cases d : j = i
      · simp only [if_pos d] at hj; cases hj
      · simp only [if_neg d] at hj ⊢; exact h.2.2 j hj
  · rw [if_neg c, if_neg c]; exact h
def l1 : Nat → Bool := tkL z0 n0 2
def l2 : Nat → Bool := tkL z0 l1 2
end Go.Proofs.YtcpgkkphibhdfaaGreat
/-
  No name is given twice: what the law's list of given names keeps; the law's walk, for any pool that answers as the bundle says.
-/
namespace Go.Proofs.YtcpgkkphibhdfaaGreat
open Go.RowKit

theorem ownD_keep {wr w2 : World} {base : Nat} {v : Value} {n : Nat} {zs : List Int} (h : OwnD wr base v n zs) (hb : Below wr.heap.size wr w2) : OwnD w2 base v n zs := by
  refine ⟨h.1, ?_⟩
  rcases h.2 with h0 | ⟨k, cap, cur, e, hbs, hh, r⟩
  · exact .inl h0
  · refine .inr ⟨k, cap, cur, e, hbs, ?_, r⟩
    rw [hb.block k (Array.getElem?_eq_some_iff.1 hh).1]
    exact hh

theorem id_nm {q : Int} {i : Nat} (hi : i < 256) (h0 : 0 ≤ q) (h1 : q ≤ 65535) : idOk (nm q i) = true := by unfold idOk nm; simp; omega
theorem live_nm {G : Nat → Int} {L : Nat → Bool} {i : Nat} (hi : i < 256) (h0 : 0 ≤ G i) (h1 : G i ≤ 65535) (hl : L i = true) : liveB G L (nm (G i) i) = true := by
  unfold liveB
  rw [id_nm hi h0 h1, show (nm (G i) i % 256).toNat = i by unfold nm; omega, hl, show nm (G i) i / 256 = G i by unfold nm; omega]
  simp
theorem live_all {G : Nat → Int} {L : Nat → Bool} {R : Nat} {x : Int} (hp : POk R G L) (h : x ∈ allL G L 256) : liveB G L x = true := by
  unfold allL at h
  rw [List.mem_map] at h
  obtain ⟨i, hi, rfl⟩ := h
  rw [List.mem_filter] at hi
  exact live_nm (by simpa using hi.1) (hp.2.1 i).1 (hp.2.2 i hi.2).2 hi.2

theorem tk_none_v {G : Nat → Int} {L : Nat → Bool} {R : Nat} (h : tkI G L R = none) : tkV G L R = 0 ∧ tkE G L R = 3 ∧ tkL G L R = L := by unfold tkV tkE tkL; rw [h]; exact ⟨rfl, rfl, rfl⟩
theorem tk_some_v {G : Nat → Int} {L : Nat → Bool} {R i : Nat} (h : tkI G L R = some i) : tkV G L R = nm (G i) i ∧ tkE G L R = 0 := by unfold tkV tkE; rw [h]; exact ⟨rfl, rfl⟩

end Go.Proofs.YtcpgkkphibhdfaaGreat
/-
  What the law PoolPlays answers, for any pool that answers as the bundle says.
-/
namespace Go.Proofs.YtcpgkkphibhdfaaGreat
open Go.RowKit

theorem zeros_row {c : Array Value} (hc : c.toList = (List.range 513).map (poolF 0 z0 n0)) (R : Int) (t : TypeId) (w : World) : (w.alloc (.cells (c.setIfInBounds 0 (.int .i64 R)) t)).rowIs w.heap.size t 513 (poolF R z0 n0) := by
  have hs : c.size = 513 := by rw [← Array.length_toList, hc]; simp
  have h := World.rowIs_alloc w (c.setIfInBounds 0 (.int .i64 R)) t (poolF R z0 n0) (fun i hi => by
    have hi' : i < 513 := by simpa [hs] using hi
    by_cases e : i = 0
    · subst e
      rw [Array.getElem?_setIfInBounds_self_of_lt (by omega)]
      rfl
    · rw [Array.getElem?_setIfInBounds_ne (by omega), ← Array.getElem?_toList, hc]
      simp only [List.getElem?_map, List.getElem?_range hi', Option.map_some]
      unfold poolF
      rw [if_neg e, if_neg e])
  rwa [Array.size_setIfInBounds, hs] at h

end Go.Proofs.YtcpgkkphibhdfaaGreat
/-
  Package pool answers as the bundle says: its pool is one block: the room, the generations, who lives.
-/
namespace Go.Proofs.YtcpgkkphibhdfaaGreat
open Go.RowKit

set_option maxHeartbeats 400000 in
theorem qnew (R : Nat) (w : World) (hR : R ≤ 256) :
    Calls Tryz.prog 26 #[.int .i64 R] w fun e w' => ∃ g, e = .returned (.tuple #[.pointer (some ⟨g, 0, none⟩), .int .i64 0]) ∧ w.heap.size ≤ g ∧ w'.rowIs g 119 513 (poolF R z0 n0) ∧ Below w.heap.size w w' := by
  have h0 : ¬ ((R : Int) < 0) := by omega
  have h1 : ¬ ((256 : Int) < (R : Int)) := by omega
  have zv := zv_pool
  have zn := zc_ne
  have zs := zc_size
  go_enter Tryz.func26, Tryz.ntmps26
  go_wp2
  go_ret2
  exact ⟨w.heap.size, rfl, Nat.le_refl _, zeros_row zc_list _ _ _, alloc_below _ _⟩
set_option maxHeartbeats 400000 in
theorem qbad (x : Int) (w : World) (hx : x < 0 ∨ 256 < x) :
    Calls Tryz.prog 26 #[.int .i64 x] w fun e w' => e = .returned (.tuple #[.pointer none, .int .i64 1]) ∧ Below w.heap.size w w' := by
  rcases hx with h | h
  all_goals
    go_enter Tryz.func26, Tryz.ntmps26
    go_wp2
    go_ret2
    exact ⟨rfl, Below.refl _ _⟩

set_option maxHeartbeats 400000 in
theorem qright_any (x : Int) (w : World) :
    Calls Tryz.prog 75 #[.int .i64 x] w fun e w' => e = .returned (.bool (idOk x)) ∧ w = w' := by
  unfold idOk
  by_cases h1 : 0 ≤ x
  · have g1 : decide (0 ≤ x) = true := by simpa using h1
    go_enter Tryz.func75, Tryz.ntmps75
    go_wp2
    go_ret
    exact ⟨by rw [g1]; rfl, rfl⟩
  · have g1 : decide (0 ≤ x) = false := by simpa using h1
    go_enter Tryz.func75, Tryz.ntmps75
    go_wp2
    go_ret
    exact ⟨rfl, rfl⟩
theorem qright_b {x : Int} {b : Bool} (h : idOk x = b) (w : World) :
    Calls Tryz.prog 75 #[.int .i64 x] w fun e w' => e = .returned (.bool b) ∧ w = w' := (qright_any x w).mono fun _ _ ⟨he, hw⟩ => ⟨by rw [he, h], hw⟩
set_option maxHeartbeats 400000 in
theorem qindex (x : Int) (w : World) :
    Calls Tryz.prog 48 #[.int .i64 x] w fun e w' => e = .returned (.int .i64 (if idOk x then x % 256 else -1)) ∧ w = w' := by
  by_cases ho : idOk x = true
  · obtain ⟨i, q, hi, hq, hx, ht, hd⟩ := id_parts ho
    rw [if_pos ho, show x % 256 = (i : Int) by omega]
    have HO := Lib.hid ho
    clear ho hx hd
    go_enter Tryz.func48, Tryz.ntmps48
    go_wp2_with fail
    refine (qright_b HO.out _).mono ?_
    rintro e w1 ⟨rfl, rfl⟩
    go_wp2
    go_ret
    exact ⟨rfl, rfl⟩
  · have ho' : idOk x = false := by simpa using ho
    rw [if_neg ho]
    have HO := Lib.hid ho'
    clear ho ho'
    go_enter Tryz.func48, Tryz.ntmps48
    go_wp2_with fail
    refine (qright_b HO.out _).mono ?_
    rintro e w1 ⟨rfl, rfl⟩
    go_wp2
    go_ret
    exact ⟨rfl, rfl⟩
set_option maxHeartbeats 400000 in
theorem qgen (x : Int) (w : World) :
    Calls Tryz.prog 76 #[.int .i64 x] w fun e w' => e = .returned (.int .i64 (if idOk x then x / 256 else -1)) ∧ w = w' := by
  by_cases ho : idOk x = true
  · obtain ⟨i, q, hi, hq, hx, ht, hd⟩ := id_parts ho
    rw [if_pos ho, show x / 256 = (q : Int) by omega]
    have HO := Lib.hid ho
    clear ho hx ht
    go_enter Tryz.func76, Tryz.ntmps76
    go_wp2_with fail
    refine (qright_b HO.out _).mono ?_
    rintro e w1 ⟨rfl, rfl⟩
    go_wp2
    go_ret
    exact ⟨rfl, rfl⟩
  · have ho' : idOk x = false := by simpa using ho
    rw [if_neg ho]
    have HO := Lib.hid ho'
    clear ho ho'
    go_enter Tryz.func76, Tryz.ntmps76
    go_wp2_with fail
    refine (qright_b HO.out _).mono ?_
    rintro e w1 ⟨rfl, rfl⟩
    go_wp2
    go_ret
    exact ⟨rfl, rfl⟩

set_option maxHeartbeats 1000000 in
theorem qlive (g : Nat) (R : Int) (G : Nat → Int) (L : Nat → Bool) (x : Int) (w : World) (row : w.rowIs g 119 513 (poolF R G L)) :
    Calls Tryz.prog 41 #[.pointer (some ⟨g, 0, none⟩), .int .i64 x] w fun e w' => e = .returned (.bool (liveB G L x)) ∧ Below w.heap.size w w' := by
  by_cases ho : idOk x = true
  · obtain ⟨i, q, hi, hq, hx, ht, hd⟩ := id_parts ho
    have HO := Lib.hid ho
    rw [show liveB G L x = (L i && decide (G i = (q : Int))) by rw [hx]; exact live_of hi hq]
    have HIx : Hid (∀ w', Calls Tryz.prog 48 #[.int .i64 x] w' fun e w'' => e = .returned (.int .i64 (i : Int)) ∧ w' = w'') := Lib.hid (fun w' => (qindex x w').mono fun _ _ ⟨he, hw⟩ => ⟨by rw [he, if_pos ho, show x % 256 = (i : Int) by omega], hw⟩)
    have HGn : Hid (∀ w', Calls Tryz.prog 76 #[.int .i64 x] w' fun e w'' => e = .returned (.int .i64 (q : Int)) ∧ w' = w'') := Lib.hid (fun w' => (qgen x w').mono fun _ _ ⟨he, hw⟩ => ⟨by rw [he, if_pos ho, show x / 256 = (q : Int) by omega], hw⟩)
    clear ho hx ht hd
    have cl := pool_live row hi
    have cg := pool_gen row hi
    clear row
    have hi0 : (0 : Int) ≤ (i : Int) := by omega
    have hi1 : (i : Int) < 256 := by omega
    obtain ⟨b, hb⟩ : ∃ b, b = L i := ⟨_, rfl⟩
    obtain ⟨y, hy⟩ : ∃ y, y = G i := ⟨_, rfl⟩
    rw [← hb] at cl
    rw [← hy] at cg
    rw [← hb, ← hy]
    clear hb hy
    cases b
    · go_enter Tryz.func41, Tryz.ntmps41
      go_wp2_with fail
      refine (qright_b HO.out _).mono ?_
      rintro e w1 ⟨rfl, rfl⟩
      go_wp2_with fail
      refine (HIx.out _).mono ?_
      rintro e w1 ⟨rfl, rfl⟩
      go_wp2
      go_quiet (fail)
      go_wp2
      go_ret
      exact ⟨rfl, Go.below_drewN (Below.refl _ _) nq⟩
    · go_enter Tryz.func41, Tryz.ntmps41
      go_wp2_with fail
      refine (qright_b HO.out _).mono ?_
      rintro e w1 ⟨rfl, rfl⟩
      go_wp2_with fail
      refine (HIx.out _).mono ?_
      rintro e w1 ⟨rfl, rfl⟩
      go_wp2
      go_region_held3 (fun w' => w'.cell? ⟨g, 257 + i, none⟩ = some (.bool true) ∧ w'.cell? ⟨g, 1 + i, none⟩ = some (.int .i64 y)) (first | exact ⟨cl, cg⟩ | go_keep)
        (first | (go_at_call 76; refine (HGn.out _).mono ?_; rintro e w2 ⟨rfl, rfl⟩))
      go_wp2
      go_ret
      exact ⟨by simp; rfl, bdrewn (Below.refl _ _)⟩
  · have ho' : idOk x = false := by simpa using ho
    rw [live_no ho']
    have HO := Lib.hid ho'
    clear ho ho' row
    go_enter Tryz.func41, Tryz.ntmps41
    go_wp2_with fail
    refine (qright_b HO.out _).mono ?_
    rintro e w1 ⟨rfl, rfl⟩
    go_wp2
    go_ret
    exact ⟨rfl, Below.refl _ _⟩

/-! All goes up to the room: nobody lives beyond it -/
theorem all_room {G : Nat → Int} {L : Nat → Bool} {R : Nat} (h : ∀ i, L i = true → i < R) : ∀ n, allL G L (R + n) = allL G L R
  | 0 => rfl
  | n + 1 => by
    have hL : L (R + n) = false := by
      by_cases c : L (R + n) = true
      · have := h _ c; omega
      · simpa using c
    rw [← Nat.add_assoc, all_no hL]
    exact all_room h n

set_option maxHeartbeats 400000 in
theorem qname (g : Nat) (R : Int) (G : Nat → Int) (L : Nat → Bool) (k : Nat) (w : World) (hG : GenOk G) (hk : k < 256) (row : w.rowIs g 119 513 (poolF R G L)) :
    Calls Tryz.prog 72 #[.pointer (some ⟨g, 0, none⟩), .int .i64 (k : Int)] w fun e w' => e = .returned (.int .i64 (nm (G k) k)) ∧ w = w' := by
  have cg := pool_gen row hk
  have hyb := hG k hk
  unfold nm
  clear row hG
  obtain ⟨y, hy⟩ : ∃ y, y = G k := ⟨_, rfl⟩
  rw [← hy] at cg hyb
  rw [← hy]
  clear hy
  have hk0 : (0 : Int) ≤ (k : Int) := by omega
  have hk1 : (k : Int) < 256 := by omega
  have hw1 : IntKind.i64.wrap (256 * y) = 256 * y := IntWalk.i64_in _ (by omega)
  have hw2 : IntKind.i64.wrap (256 * y + (k : Int)) = 256 * y + (k : Int) := IntWalk.i64_in _ (by omega)
  go_enter Tryz.func72, Tryz.ntmps72
  go_wp2
  go_ret
  exact ⟨rfl, rfl⟩

set_option maxHeartbeats 1000000 in
theorem qall (g R : Nat) (G : Nat → Int) (L : Nat → Bool) (w : World) (hP : POk R G L) (row : w.rowIs g 119 513 (poolF R G L)) :
    Calls Tryz.prog 44 #[.pointer (some ⟨g, 0, none⟩)] w fun e w' => ∃ a cap, e = .returned (.slice a (allL G L 256).length cap) ∧ Row w' a (allL G L 256).length (allL G L 256) ∧ Below w.heap.size w w' := by
  have hall : allL G L 256 = allL G L R := by
    have h1 := all_room (G := G) (fun i hi => (hP.2.2 i hi).1) (256 - R)
    have h2 := hP.1
    rwa [show R + (256 - R) = 256 by omega] at h1
  rw [hall]
  have hR := hP.1
  have HRow := Lib.hid row
  have HG := Lib.hid hP.gen
  have cr := pool_room row
  clear row hP hall
  obtain ⟨i0, hi0, hz0, hz1, hz2⟩ := info_parts id_info
  have HI := Lib.hid (And.intro hi0 (And.intro hz0 (And.intro hz1 hz2)))
  clear hi0 hz0 hz1 hz2
  go_enter Tryz.func44, Tryz.ntmps44
  go_wp2
  go_loopw [3, 11] (fun v i wr => ∃ k : Nat, k ≤ R ∧ i = .int .i64 k ∧ OwnD wr w.heap.size v (allL G L k).length (allL G L k) ∧ Below w.heap.size w wr) (fun _ i _ => R - (intOf i).toNat)
  case atStart => exact ⟨0, by omega, rfl, OwnD.nil _ _, Below.refl _ _⟩
  case round =>
    clear cr
    obtain ⟨k, hk, rfl, hown, hb⟩ := hrel
    have HOwn := Lib.hid hown
    have HB := Lib.hid hb
    clear hown hb
    have HR2 := Lib.hid (World.rowIs.keep HRow.out HB.out)
    by_cases hlt : k < R
    · have cl := pool_live HR2.out (k := k) (by omega)
      have hk0 : (0 : Int) ≤ (k : Int) := by omega
      have hk1 : (k : Int) < 256 := by omega
      have hkR : (k : Int) < (R : Int) := by omega
      have zg : g < wr.heap.size := HR2.out.lt
      have hle := all_len G L k
      by_cases hL : L k = true
      · rw [hL] at cl
        have HA := Lib.hid (all_yes (G := G) hL)
        clear hL
        obtain ⟨n, hn⟩ : ∃ n, n = (allL G L k).length := ⟨_, rfl⟩
        rw [← hn] at HOwn hle
        have HN := Lib.hid hn
        clear hn
        have hsz : w.heap.size ≤ wr.heap.size := HB.out.size
        go_wp2_with fail
        refine (qname g R G L k _ HG.out (by omega) HR2.out).mono ?_
        rintro e w1 ⟨rfl, rfl⟩
        go_wp2_with (at_builtin; refine wpList_append_own _ rfl (.tmp 20) (.tmp 24) 53 rfl w.heap.size 35 i0 (.int .i64 0) 1 8 Tryz.underlying53 HI.out.1 HI.out.2.1 HI.out.2.2.1 HI.out.2.2.2 rfl (by decide) _ _ _ rfl (HOwn.out.alloc _) ⟨wr.heap.size, 0, none⟩ 1 1 [.int .i64 (nm (G k) k)] rfl rfl (cell_one_new _ _ _) (by intro u hu; simp at hu; subst hu; rfl) (by unfold maxLen; omega) (by omega) (by simp; omega) ?_)
        intro v' w2 hown' hgrow _
        have HOwn' := Lib.hid hown'
        have HGr := Lib.hid hgrow
        clear hown' hgrow
        go_wp2
        go_roundw
        case rel =>
          have el : (allL G L (k + 1)).length = n + 1 := by rw [HA.out, List.length_append, ← HN.out]; rfl
          refine ⟨k + 1, by omega, by go_num, ?_, grownD_below HOwn.out (Nat.le_refl _) HB.out hsz HGr.out⟩
          rw [el]
          unfold OwnD
          rw [HA.out, List.map_append]
          exact HOwn'.out
        case measure => simp [intOf] <;> omega
      · have hL' : L k = false := by simpa using hL
        rw [hL'] at cl
        have HA := Lib.hid (all_no (G := G) hL')
        clear hL hL'
        go_wp2
        go_roundw
        case rel => exact ⟨k + 1, by omega, by go_num, by rw [HA.out]; exact HOwn.out, HB.out⟩
        case measure => simp [intOf] <;> omega
    · obtain rfl : k = R := by omega
      obtain ⟨a, cap, rfl, hr⟩ := HOwn.out.row
      have HA := Lib.hid hr
      clear hr
      go_wp2
      go_ret
      exact ⟨a, cap, rfl, HA.out, HB.out⟩

set_option maxHeartbeats 1000000 in
theorem qtake (g R : Nat) (G : Nat → Int) (L : Nat → Bool) (w : World) (hR : R ≤ 256) (hG : GenOk G) (row : w.rowIs g 119 513 (poolF R G L)) :
    Calls Tryz.prog 39 #[.pointer (some ⟨g, 0, none⟩)] w fun e w' => e = .returned (.tuple #[.int .i64 (tkV G L R), .int .i64 (tkE G L R)]) ∧ w'.rowIs g 119 513 (poolF R G (tkL G L R)) ∧ w.grownBy w' (some g) := by
  have HRow := Lib.hid row
  have HG := Lib.hid hG
  have cr := pool_room row
  clear row hG
  go_enter Tryz.func39, Tryz.ntmps39
  go_wp2
  go_loopw [11] (fun i wr => ∃ k : Nat, k ≤ R ∧ i = .int .i64 k ∧ (∀ j, j < k → freeB G L j = false) ∧ wr = w) (fun i _ => R - (intOf i).toNat)
  case atStart => exact ⟨0, by omega, rfl, fun j hj => by omega, rfl⟩
  case round =>
    obtain ⟨k, hk, rfl, hz, rfl⟩ := hrel
    have HZ := Lib.hid hz
    clear hz
    by_cases hlt : k < R
    · have cl := pool_live HRow.out (k := k) (by omega)
      have cg := pool_gen HRow.out (k := k) (by omega)
      have fl := HRow.out.frozen (257 + k)
      have hk0 : (0 : Int) ≤ (k : Int) := by omega
      have hk1 : (k : Int) < 256 := by omega
      have hkR : (k : Int) < (R : Int) := by omega
      obtain ⟨b, hb⟩ : ∃ b, b = L k := ⟨_, rfl⟩
      obtain ⟨y, hy⟩ : ∃ y, y = G k := ⟨_, rfl⟩
      have hyb := HG.out k (by omega)
      rw [← hb] at cl
      rw [← hy] at cg hyb
      have HF : Hid (freeB G L k = (!b && decide (y ≤ 65535))) := Lib.hid (by unfold freeB; rw [hb, hy])
      have HY := Lib.hid hy
      clear hb hy
      cases b
      · by_cases hy : y ≤ 65535
        · have hgl : 1 + k ≠ 257 + k := by omega
          go_wp2_with fail
          refine (qname g R G (upd L k true) k _ HG.out (by omega) (pool_setL HRow.out (by omega) true)).mono ?_
          rintro e w1 ⟨rfl, rfl⟩
          go_wp2
          go_ret2
          have e1 : tkI G L R = some k := tk_some hlt HZ.out (by rw [HF.out]; simpa using hy)
          have ev : tkV G L R = nm (G k) k := by unfold tkV; rw [e1]
          have ee : tkE G L R = 0 := by unfold tkE; rw [e1]
          refine ⟨by rw [ev, ee]; rfl, ?_, grown_set _ _ _ _⟩
          unfold tkL
          rw [e1]
          exact pool_setL HRow.out (by omega) true
        · have HZ2 := Lib.hid (free_step HZ.out (by rw [HF.out]; simpa using hy))
          go_wp2
          go_roundw
          case rel => exact ⟨k + 1, by omega, by go_num, HZ2.out, by trivial⟩
          case measure => simp [intOf] <;> omega
      · have HZ2 := Lib.hid (free_step HZ.out (by rw [HF.out]; rfl))
        go_wp2
        go_roundw
        case rel => exact ⟨k + 1, by omega, by go_num, HZ2.out, by trivial⟩
        case measure => simp [intOf] <;> omega
    · obtain rfl : k = R := by omega
      have e1 : tkI G L k = none := tk_none HZ.out
      have HE := Lib.hid e1
      clear e1
      go_wp2
      go_ret2
      have ev : tkV G L k = 0 := by unfold tkV; rw [HE.out]
      have ee : tkE G L k = 3 := by unfold tkE; rw [HE.out]
      have el : tkL G L k = L := by unfold tkL; rw [HE.out]
      exact ⟨by rw [ev, ee]; rfl, by rw [el]; exact HRow.out, World.grownBy.refl _ _⟩

set_option maxHeartbeats 1000000 in
theorem qdrop (g : Nat) (R : Int) (G : Nat → Int) (L : Nat → Bool) (x : Int) (w : World) (hG : GenOk G) (row : w.rowIs g 119 513 (poolF R G L)) :
    Calls Tryz.prog 51 #[.pointer (some ⟨g, 0, none⟩), .int .i64 x] w fun e w' => e = .returned (.bool (liveB G L x)) ∧ w'.rowIs g 119 513 (poolF R (drG G L x) (drL G L x)) ∧ w.grownBy w' (some g) := by
  have HRow := Lib.hid row
  clear row
  by_cases ho : liveB G L x = true
  · have hid : idOk x = true := by
      by_cases c : idOk x = true
      · exact c
      · rw [live_no (by simpa using c)] at ho; cases ho
    obtain ⟨i, q, hi, hq, hx, ht, hd⟩ := id_parts hid
    have hdL : drL G L x = upd L i false := by unfold drL; rw [if_pos ho, show (x % 256).toNat = i by omega]
    have hdG : drG G L x = upd G i (G i + 1) := by unfold drG; rw [if_pos ho, show (x % 256).toNat = i by omega]
    rw [hdL, hdG, ho]
    have HO : Hid (∀ w', w'.rowIs g 119 513 (poolF R G L) → Calls Tryz.prog 41 #[.pointer (some ⟨g, 0, none⟩), .int .i64 x] w' fun e w'' => e = .returned (.bool true) ∧ Below w'.heap.size w' w'') :=
      Lib.hid (fun w' hr => (qlive g R G L x w' hr).mono fun _ _ ⟨he, hw⟩ => ⟨by rw [he, ho], hw⟩)
    have HIx : Hid (∀ w', Calls Tryz.prog 48 #[.int .i64 x] w' fun e w'' => e = .returned (.int .i64 (i : Int)) ∧ w' = w'') := Lib.hid (fun w' => (qindex x w').mono fun _ _ ⟨he, hw⟩ => ⟨by rw [he, if_pos hid, show x % 256 = (i : Int) by omega], hw⟩)
    have hyb := hG i hi
    clear hG ho hid hx hd ht hdL hdG
    have hi0 : (0 : Int) ≤ (i : Int) := by omega
    have hi1 : (i : Int) < 256 := by omega
    obtain ⟨y, hy⟩ : ∃ y, y = G i := ⟨_, rfl⟩
    rw [← hy] at hyb
    rw [← hy]
    have hw1 : IntKind.i64.wrap (y + 1) = y + 1 := IntWalk.i64_in _ (by omega)
    go_enter Tryz.func51, Tryz.ntmps51
    go_wp2_with fail
    refine (HO.out _ HRow.out).mono ?_
    rintro e w1 ⟨rfl, b1⟩
    have HGr := Lib.hid (below_grown b1 (some g))
    replace HRow := Lib.hid (World.rowIs.keep HRow.out b1)
    clear b1
    have cl := pool_live HRow.out hi
    have fl := HRow.out.frozen (257 + i)
    have HRow2 := Lib.hid (pool_setL HRow.out hi false)
    have cg := pool_gen HRow2.out hi
    have fg := HRow2.out.frozen (1 + i)
    rw [← hy] at cg
    clear hy
    go_wp2_with fail
    refine (HIx.out _).mono ?_
    rintro e w2 ⟨rfl, rfl⟩
    go_wp2
    go_region
    go_wp2
    go_ret
    exact ⟨rfl, rowIs_drew (pool_setG HRow2.out hi _), grown_trans HGr.out (grown_drew (grown_trans (grown_set _ _ _ _) (grown_set _ _ _ _)))⟩
  · have ho' : liveB G L x = false := by simpa using ho
    have hdL : drL G L x = L := by unfold drL; rw [if_neg ho]
    have hdG : drG G L x = G := by unfold drG; rw [if_neg ho]
    rw [hdL, hdG, ho']
    have HO : Hid (∀ w', w'.rowIs g 119 513 (poolF R G L) → Calls Tryz.prog 41 #[.pointer (some ⟨g, 0, none⟩), .int .i64 x] w' fun e w'' => e = .returned (.bool false) ∧ Below w'.heap.size w' w'') :=
      Lib.hid (fun w' hr => (qlive g R G L x w' hr).mono fun _ _ ⟨he, hw⟩ => ⟨by rw [he, ho'], hw⟩)
    clear ho ho' hG hdL hdG
    go_enter Tryz.func51, Tryz.ntmps51
    go_wp2_with fail
    refine (HO.out _ HRow.out).mono ?_
    rintro e w1 ⟨rfl, b1⟩
    have HGr := Lib.hid (below_grown b1 (some g))
    replace HRow := Lib.hid (World.rowIs.keep HRow.out b1)
    clear b1
    go_wp2
    go_ret
    exact ⟨rfl, HRow.out, HGr.out⟩

end Go.Proofs.YtcpgkkphibhdfaaGreat
