/-
  5 texts in one file, each with its own heading.
-/
import Derived.Test.YtkondkajpmafkaaGreatMT02
import Derived.Deep.OwnRows
import Derived.Deep.QuietTactic
import Derived.Maps.AppendAt
import Derived.Test.YtkondkajpmafkaaGreatMT11
/-
  A pool as a row of cells: its room, of each index the generation, and whether its name lives; what the reference's Right, Live and Take of layer 5 answer.
-/
namespace Go.Proofs.YtkondkajpmafkaaGreat
open Go.RowKit

def upd {α : Type} (f : Nat → α) (k : Nat) (v : α) (j : Nat) : α := if j = k then v else f j
def poolF (R : Int) (G : Nat → Int) (L : Nat → Bool) (j : Nat) : Value := if j = 0 then .int .i64 R else if j < 257 then .int .i64 (G (j - 1)) else .bool (L (j - 257))
section
variable {w : World} {g : Nat} {t : TypeId} {R : Int} {G : Nat → Int} {L : Nat → Bool} {k : Nat}
theorem pool_room (h : w.rowIs g t 513 (poolF R G L)) : w.cell? ⟨g, 0, none⟩ = some (.int .i64 R) := h.cell (i := 0) (by omega)
theorem pool_gen (h : w.rowIs g t 513 (poolF R G L)) (hk : k < 256) : w.cell? ⟨g, 1 + k, none⟩ = some (.int .i64 (G k)) := by
  rw [h.cell (i := 1 + k) (by omega)]
  unfold poolF
  rw [if_neg (by omega), if_pos (by omega), show 1 + k - 1 = k by omega]
theorem pool_live (h : w.rowIs g t 513 (poolF R G L)) (hk : k < 256) : w.cell? ⟨g, 257 + k, none⟩ = some (.bool (L k)) := by
  rw [h.cell (i := 257 + k) (by omega)]
  unfold poolF
  rw [if_neg (by omega), if_neg (by omega), show 257 + k - 257 = k by omega]
theorem pool_setL (h : w.rowIs g t 513 (poolF R G L)) (hk : k < 256) (b : Bool) : (w.setCell ⟨g, 257 + k, none⟩ (.bool b)).rowIs g t 513 (poolF R G (upd L k b)) :=
  (h.set (257 + k) (.bool b)).congr fun i hi => by
    unfold poolF upd
    by_cases e : i = 257 + k
    · rw [if_pos e, if_neg (by omega), if_neg (by omega), if_pos (by omega)]
    · rw [if_neg e]
      by_cases e0 : i = 0
      · rw [if_pos e0, if_pos e0]
      · rw [if_neg e0, if_neg e0]
        by_cases e1 : i < 257
        · rw [if_pos e1, if_pos e1]
        · rw [if_neg e1, if_neg e1, if_neg (by omega)]
theorem pool_setG (h : w.rowIs g t 513 (poolF R G L)) (hk : k < 256) (x : Int) : (w.setCell ⟨g, 1 + k, none⟩ (.int .i64 x)).rowIs g t 513 (poolF R (upd G k x) L) :=
  (h.set (1 + k) (.int .i64 x)).congr fun i hi => by
    unfold poolF upd
    by_cases e : i = 1 + k
    · rw [if_pos e, if_neg (by omega), if_pos (by omega), if_pos (by omega)]
    · rw [if_neg e]
      by_cases e0 : i = 0
      · rw [if_pos e0, if_pos e0]
      · rw [if_neg e0, if_neg e0]
        by_cases e1 : i < 257
        · rw [if_pos e1, if_pos e1, if_neg (by omega)]
        · rw [if_neg e1, if_neg e1]
theorem rowIs_drew {n : Nat} {f : Nat → Value} (h : w.rowIs g t n f) : w.drew.rowIs g t n f := h
end
theorem grown_set (w : World) (g i : Nat) (u : Value) : w.grownBy (w.setCell ⟨g, i, none⟩ u) (some g) := by
  have hb := (Below.refl 0 w).setCell (p := ⟨g, i, none⟩) (Nat.zero_le _) u
  exact ⟨hb.os, hb.tape, hb.output, hb.size, fun k _ hne => Below.heap_setCell _ _ _ _ (fun e => hne (by rw [e]))⟩
theorem grown_drew {a b : World} {r : Option Nat} (h : a.grownBy b r) : a.grownBy b.drew r := ⟨h.os, h.tape, h.output, h.size, h.block⟩
theorem grown_trans {a b c : World} {r : Option Nat} (h : a.grownBy b r) (k : b.grownBy c r) : a.grownBy c r :=
  ⟨k.os.trans h.os, k.tape.trans h.tape, k.output.trans h.output, Nat.le_trans h.size k.size, fun i hi hn => (k.block i (Nat.lt_of_lt_of_le hi h.size) hn).trans (h.block i hi hn)⟩
theorem below_grown {a b : World} (h : Below a.heap.size a b) (r : Option Nat) : a.grownBy b r := ⟨h.os, h.tape, h.output, h.size, fun k hk _ => h.block k hk⟩
def idOk (x : Int) : Bool := decide (0 ≤ x) && decide (x < 16777216)
def nm (g : Int) (i : Nat) : Int := 256 * g + i
theorem id_parts {x : Int} (h : idOk x = true) : ∃ i q : Nat, i < 256 ∧ q < 65536 ∧ x = 256 * (q : Int) + i ∧ x.tmod 256 = i ∧ x.tdiv 256 = q := by
  have h2 : 0 ≤ x ∧ x < 16777216 := by simpa [idOk] using h
  obtain ⟨n, rfl⟩ := Int.eq_ofNat_of_zero_le h2.1
  refine ⟨n % 256, n / 256, by omega, by omega, by omega, ?_, ?_⟩
  · rw [Int.tmod_eq_emod_of_nonneg (by omega)]; omega
  · rw [Int.tdiv_eq_ediv_of_nonneg (by omega)]; omega
def liveB (G : Nat → Int) (L : Nat → Bool) (x : Int) : Bool := idOk x && (L (x % 256).toNat && decide (G (x % 256).toNat = x / 256))
theorem live_no {G : Nat → Int} {L : Nat → Bool} {x : Int} (h : idOk x = false) : liveB G L x = false := by unfold liveB; rw [h]; rfl
theorem live_of {G : Nat → Int} {L : Nat → Bool} {i q : Nat} (hi : i < 256) (hq : q < 65536) : liveB G L (256 * (q : Int) + i) = (L i && decide (G i = (q : Int))) := by
  unfold liveB
  rw [show ((256 * (q : Int) + i) % 256).toNat = i by omega, show (256 * (q : Int) + i) / 256 = q by omega, show idOk (256 * (q : Int) + i) = true by unfold idOk; simp; omega]
  rfl
def freeB (G : Nat → Int) (L : Nat → Bool) (i : Nat) : Bool := !L i && decide (G i ≤ 65535)
def tkI (G : Nat → Int) (L : Nat → Bool) (R : Nat) : Option Nat := (List.range R).find? (freeB G L)
def tkV (G : Nat → Int) (L : Nat → Bool) (R : Nat) : Int := match tkI G L R with | some i => nm (G i) i | none => 0
def tkE (G : Nat → Int) (L : Nat → Bool) (R : Nat) : Int := match tkI G L R with | some _ => 0 | none => 3
def tkL (G : Nat → Int) (L : Nat → Bool) (R : Nat) : Nat → Bool := match tkI G L R with | some i => upd L i true | none => L
theorem tk_some {G : Nat → Int} {L : Nat → Bool} {R k : Nat} (hk : k < R) (h : ∀ j, j < k → freeB G L j = false) (hf : freeB G L k = true) : tkI G L R = some k := by
  unfold tkI
  rw [List.find?_range_eq_some]
  exact ⟨hf, by simpa using hk, fun j hj => by rw [h j hj]; rfl⟩
theorem tk_none {G : Nat → Int} {L : Nat → Bool} {R : Nat} (h : ∀ j, j < R → freeB G L j = false) : tkI G L R = none := by
  unfold tkI
  rw [List.find?_eq_none]
  intro j hj
  rw [h j (by simpa using hj)]
  simp
theorem free_step {G : Nat → Int} {L : Nat → Bool} {k : Nat} (h : ∀ j, j < k → freeB G L j = false) (hk : freeB G L k = false) : ∀ j, j < k + 1 → freeB G L j = false := fun j hj => by
  by_cases c : j = k
  · rw [c]; exact hk
  · exact h j (by omega)
def GenOk (G : Nat → Int) : Prop := ∀ i, i < 256 → 0 ≤ G i ∧ G i ≤ 100000

def drL (G : Nat → Int) (L : Nat → Bool) (x : Int) : Nat → Bool := if liveB G L x then upd L (x % 256).toNat false else L
def drG (G : Nat → Int) (L : Nat → Bool) (x : Int) : Nat → Int := if liveB G L x then upd G (x % 256).toNat (G (x % 256).toNat + 1) else G

def allL (G : Nat → Int) (L : Nat → Bool) (k : Nat) : List Int := ((List.range k).filter L).map fun i => nm (G i) i
theorem all_yes {G : Nat → Int} {L : Nat → Bool} {k : Nat} (h : L k = true) : allL G L (k + 1) = allL G L k ++ [nm (G k) k] := by
  unfold allL; rw [List.range_succ, List.filter_append, List.map_append]; simp [h]
theorem all_no {G : Nat → Int} {L : Nat → Bool} {k : Nat} (h : L k = false) : allL G L (k + 1) = allL G L k := by
  unfold allL; rw [List.range_succ, List.filter_append, List.map_append]; simp [h]
theorem all_len (G : Nat → Int) (L : Nat → Bool) (k : Nat) : (allL G L k).length ≤ k := by
  unfold allL; rw [List.length_map]; exact Nat.le_trans (List.length_filter_le _ _) (by simp)

def OwnD (w : World) (base : Nat) (v : Value) (n : Nat) (zs : List Int) : Prop := w.ownsRow base 31 1 v n (zs.map (Value.int .i64))
theorem id_info : (Tryz.prog.info? 31).map (fun i => (i.zero, i.size, i.bytes)) = some (some (.int .i64 0), 1, 8) := by kernel_rfl
theorem OwnD.nil (w : World) (base : Nat) : OwnD w base (.slice none 0 0) 0 [] := World.ownsRow_nil _ _ _ _
theorem OwnD.row {w : World} {base : Nat} {v : Value} {n : Nat} {zs : List Int} (h : OwnD w base v n zs) : ∃ a cap, v = .slice a n cap ∧ Row w a n zs := by
  have hl : zs.length = n := by simpa using h.1
  rcases h.2 with ⟨rfl, rfl⟩ | ⟨g, cap, cur, rfl, hb, hh, hnc, hm, hs, ht⟩
  · exact ⟨none, 0, rfl, hl, by omega, Or.inl rfl⟩
  · unfold maxLen at hm
    refine ⟨_, cap, rfl, hl, by omega, Or.inr ⟨g, 0, rfl, fun i hi => ?_⟩⟩
    rw [Nat.zero_add]
    have hi' : i < (zs.map (Value.int .i64)).length := by rw [List.length_map]; omega
    have hc := World.ownsRow.cellAt (j := i) h (by omega)
    rw [hc]
    simp [List.getD, List.getElem?_eq_getElem (show i < zs.length by omega)]
theorem grownD_below {w0 wr w' : World} {base B : Nat} {v : Value} {n : Nat} {zs : List Int} {o : Obj} (ho : OwnD wr base v n zs) (hB : B ≤ base) (hb : Below B w0 wr) (hs : B ≤ wr.heap.size) (hg : (wr.alloc o).grownBy w' v.ownBlock) : Below B w0 w' :=
  (hb.alloc hs o).grown hg (by simp; omega) (fun k hk => by have := World.ownsRow.lt ho k hk; omega)

theorem row_at {w : World} {a : Option Addr} {len : Nat} {zs : List Int} (h : Row w a len zs) {k : Nat} (hk : k < len) : ∃ b off x, a = some ⟨b, off, none⟩ ∧ zs[k]? = some x ∧ w.cell? ⟨b, off + k, none⟩ = some (.int .i64 x) := by
  obtain ⟨h1, h2, h3⟩ := h
  rcases h3 with h3 | ⟨b, off, rfl, hc⟩
  · omega
  · have hk' : k < zs.length := by omega
    have c := hc k hk
    rw [show zs.getD k 0 = zs[k] by simp [List.getD, List.getElem?_eq_getElem hk']] at c
    exact ⟨b, off, _, rfl, List.getElem?_eq_getElem hk', c⟩

set_option maxHeartbeats 1000000 in
theorem plhas_any (a : Option Addr) (len cap : Nat) (zs : List Int) (x : Int) (w : World) (row : Row w a len zs) :
    Calls Tryz.prog 20 #[.slice a len cap, .int .i64 x] w fun e w' => e = .returned (.bool (decide (x ∈ zs))) ∧ w = w' := by
  have HL := Lib.hid row.1
  have hbig := row.2.1
  have HRow := Lib.hid row
  clear row
  go_enter Tryz.func20, Tryz.ntmps20
  go_wp2
  go_loopw [5] (fun i wr => ∃ k : Nat, k ≤ len ∧ i = .int .i64 k ∧ (x ∉ zs.take k) ∧ wr = w) (fun i _ => len - (intOf i).toNat)
  case atStart => exact ⟨0, by omega, rfl, by simp, rfl⟩
  case round =>
    obtain ⟨k, hk, rfl, hz, rfl⟩ := hrel
    have HZ := Lib.hid hz
    clear hz
    by_cases hlt : k < len
    · obtain ⟨b, off, y, rfl, hv, c0⟩ := row_at HRow.out hlt
      have HV := Lib.hid hv
      clear hv
      have hk0 : (0 : Int) ≤ (k : Int) := by omega
      have hk1 : (k : Int) < (len : Int) := by omega
      by_cases he : y = x
      · have ge : (y == x) = true := by rw [he]; simp
        have HE := Lib.hid he
        clear he
        go_wp2
        go_ret
        exact ⟨by rw [show decide (x ∈ zs) = true by rw [← HE.out]; simpa using List.mem_of_getElem? HV.out]; rfl, rfl⟩
      · have ge : (y == x) = false := by simpa using he
        have HE := Lib.hid (show x ∉ zs.take (k + 1) by
          rw [List.take_add_one, HV.out]
          simp only [Option.toList_some, List.mem_append, List.mem_singleton, not_or]
          exact ⟨HZ.out, fun e => he e.symm⟩)
        clear he
        go_wp2
        go_roundw
        case rel => exact ⟨k + 1, by omega, by go_num, HE.out, by trivial⟩
        case measure => simp [intOf] <;> omega
    · obtain rfl : k = len := by omega
      have e1 := HZ.out
      rw [List.take_of_length_le (by rw [HL.out]; exact Nat.le_refl _)] at e1
      have HE := Lib.hid e1
      clear e1
      go_wp2
      go_ret
      exact ⟨by rw [show decide (x ∈ zs) = false by simpa using HE.out]; rfl, rfl⟩

set_option maxHeartbeats 1000000 in
theorem psame_any (a b : Option Addr) (n m cap cap' : Nat) (xs ys : List Int) (w : World) (row : Row w a n xs) (row' : Row w b m ys) :
    Calls Tryz.prog 25 #[.slice a n cap, .slice b m cap'] w fun e w' => e = .returned (.bool (decide (xs = ys))) ∧ Below w.heap.size w w' := by
  have HL := Lib.hid (And.intro row.1 row'.1)
  have hbig := row.2.1
  have HRow := Lib.hid row
  have HRow' := Lib.hid row'
  clear row row'
  by_cases hnm : n = m
  · subst hnm
    go_enter Tryz.func25, Tryz.ntmps25
    go_wp2
    go_loopw [5] (fun i wr => ∃ k : Nat, k ≤ n ∧ i = .int .i64 k ∧ xs.take k = ys.take k ∧ Below w.heap.size w wr) (fun i _ => n - (intOf i).toNat)
    case atStart => exact ⟨0, by omega, rfl, by simp, Below.refl _ _⟩
    case round =>
      obtain ⟨k, hk, rfl, hz, hb⟩ := hrel
      have HZ := Lib.hid hz
      have HB := Lib.hid hb
      clear hz hb
      by_cases hlt : k < n
      · obtain ⟨p, off, x, rfl, hv, c0⟩ := row_at (row_keep HRow.out HB.out) hlt
        obtain ⟨p', off', y, rfl, hv', c1⟩ := row_at (row_keep HRow'.out HB.out) hlt
        have HV := Lib.hid (And.intro hv hv')
        clear hv hv'
        have hk0 : (0 : Int) ≤ (k : Int) := by omega
        have hk1 : (k : Int) < (n : Int) := by omega
        by_cases he : x = y
        · have HE := Lib.hid (show xs.take (k + 1) = ys.take (k + 1) by rw [List.take_add_one, List.take_add_one, HV.out.1, HV.out.2, HZ.out, he])
          subst he
          go_wp2
          go_quiet (fail)
          go_wp2
          go_roundw
          case rel => exact ⟨k + 1, by omega, by go_num, HE.out, Go.below_drewN HB.out nq⟩
          case measure => simp [intOf] <;> omega
        · have ge : (x != y) = true := by simpa using he
          have HE := Lib.hid (show xs ≠ ys from fun e => he (by have h1 := HV.out.1; rw [e, HV.out.2] at h1; exact (Option.some.inj h1).symm))
          clear he
          go_wp2
          go_quiet (fail)
          go_wp2
          go_ret
          exact ⟨by rw [show decide (xs = ys) = false by simpa using HE.out]; rfl, Go.below_drewN HB.out nq⟩
      · obtain rfl : k = n := by omega
        have e1 := HZ.out
        rw [List.take_of_length_le (by rw [HL.out.1]; exact Nat.le_refl _), List.take_of_length_le (by rw [HL.out.2]; exact Nat.le_refl _)] at e1
        have HE := Lib.hid e1
        clear e1
        go_wp2
        go_ret
        exact ⟨by rw [show decide (xs = ys) = true by simpa using HE.out]; rfl, HB.out⟩
  · have gn : ((n : Int) != (m : Int)) = true := by simp; omega
    have HE := Lib.hid (show xs ≠ ys from fun e => hnm (by rw [← HL.out.1, ← HL.out.2, e]))
    clear hnm
    go_enter Tryz.func25, Tryz.ntmps25
    go_wp2
    go_ret
    exact ⟨by rw [show decide (xs = ys) = false by simpa using HE.out]; rfl, Below.refl _ _⟩

def z0 : Nat → Int := fun _ => 0
def n0 : Nat → Bool := fun _ => false
def zcells : Array Value := ((List.range 513).map (poolF 0 z0 n0)).toArray
theorem to_list (l : List Value) : l.toArray.toList = l := rfl
theorem zc_list : zcells.toList = (List.range 513).map (poolF 0 z0 n0) := by unfold zcells; exact to_list _
theorem zc_size : zcells.size = 513 := by unfold zcells; simp
theorem zc_ne : ¬ zcells = #[] := by intro e; have h := zc_size; rw [e] at h; cases h
theorem zv_pool (w : World) : (zeroValue 158).run Tryz.prog w = .ok (.agg zcells) w := by kernel_rfl
def POk (R : Nat) (G : Nat → Int) (L : Nat → Bool) : Prop := R ≤ 256 ∧ (∀ i, 0 ≤ G i ∧ G i ≤ 65536) ∧ ∀ i, L i = true → i < R ∧ G i ≤ 65535
theorem POk.gen {R : Nat} {G : Nat → Int} {L : Nat → Bool} (h : POk R G L) : GenOk G := fun i _ => by have := h.2.1 i; omega
theorem POk.zero {R : Nat} (h : R ≤ 256) : POk R z0 n0 := ⟨h, fun i => by unfold z0; omega, fun i hi => by cases hi⟩
theorem tk_spec {G : Nat → Int} {L : Nat → Bool} {R i : Nat} (h : tkI G L R = some i) : i < R ∧ L i = false ∧ G i ≤ 65535 := by
  unfold tkI at h
  have h1 := List.find?_some h
  have h2 := List.mem_of_find?_eq_some h
  unfold freeB at h1
  simp at h1 h2
  exact ⟨h2, h1.1, h1.2⟩
theorem POk.take {R : Nat} {G : Nat → Int} {L : Nat → Bool} (h : POk R G L) : POk R G (tkL G L R) := by
  unfold tkL
  cases e : tkI G L R with
  | none => exact h
  | some i =>
    obtain ⟨hi, _, hg⟩ := tk_spec e
    refine ⟨h.1, h.2.1, fun j hj => ?_⟩
    unfold upd at hj
    by_cases c : j = i
    · rw [c]; exact ⟨hi, hg⟩
    · simp only [if_neg c] at hj; exact h.2.2 j hj
theorem live_spec {G : Nat → Int} {L : Nat → Bool} {x : Int} (h : liveB G L x = true) : ∃ i : Nat, i < 256 ∧ (x % 256).toNat = i ∧ L i = true ∧ x = nm (G i) i := by
  unfold liveB at h
  have h3 : idOk x = true ∧ L (x % 256).toNat = true ∧ G (x % 256).toNat = x / 256 := by simpa using h
  refine ⟨_, by omega, rfl, h3.2.1, ?_⟩
  rw [h3.2.2]
  unfold nm
  omega
theorem POk.drop {R : Nat} {G : Nat → Int} {L : Nat → Bool} (h : POk R G L) (x : Int) : POk R (drG G L x) (drL G L x) := by
  unfold drG drL
  by_cases c : liveB G L x = true
  · rw [if_pos c, if_pos c]
    obtain ⟨i, _, e, hl, _⟩ := live_spec c
    rw [e]
    refine ⟨h.1, fun j => ?_, fun j hj => ?_⟩
    · unfold upd
      by_cases d : j = i
      · simp only [if_pos d]
        have := h.2.1 i
        have := h.2.2 i hl
        omega
      · simp only [if_neg d]; exact h.2.1 j
    · unfold upd at hj ⊢
      by_cases d : j = i
      · simp only [if_pos d] at hj; cases hj
      · simp only [if_neg d] at hj ⊢; exact h.2.2 j hj
  · rw [if_neg c, if_neg c]; exact h
def l1 : Nat → Bool := tkL z0 n0 2
def l2 : Nat → Bool := tkL z0 l1 2
theorem ownD_keep {wr w2 : World} {base : Nat} {v : Value} {n : Nat} {zs : List Int} (h : OwnD wr base v n zs) (hb : Below wr.heap.size wr w2) : OwnD w2 base v n zs := by
  refine ⟨h.1, ?_⟩
  rcases h.2 with h0 | ⟨k, cap, cur, e, hbs, hh, r⟩
  · exact .inl h0
  · refine .inr ⟨k, cap, cur, e, hbs, ?_, r⟩
    rw [hb.block k (Array.getElem?_eq_some_iff.1 hh).1]
    exact hh

theorem id_nm {q : Int} {i : Nat} (hi : i < 256) (h0 : 0 ≤ q) (h1 : q ≤ 65535) : idOk (nm q i) = true := by unfold idOk nm; simp; omega
theorem live_nm {G : Nat → Int} {L : Nat → Bool} {i : Nat} (hi : i < 256) (h0 : 0 ≤ G i) (h1 : G i ≤ 65535) (hl : L i = true) : liveB G L (nm (G i) i) = true := by
  unfold liveB
  rw [id_nm hi h0 h1, show (nm (G i) i % 256).toNat = i by unfold nm; omega, hl, show nm (G i) i / 256 = G i by unfold nm; omega]
  simp
theorem live_all {G : Nat → Int} {L : Nat → Bool} {R : Nat} {x : Int} (hp : POk R G L) (h : x ∈ allL G L 256) : liveB G L x = true := by
  unfold allL at h
  rw [List.mem_map] at h
  obtain ⟨i, hi, rfl⟩ := h
  rw [List.mem_filter] at hi
  exact live_nm (by simpa using hi.1) (hp.2.1 i).1 (hp.2.2 i hi.2).2 hi.2

theorem tk_none_v {G : Nat → Int} {L : Nat → Bool} {R : Nat} (h : tkI G L R = none) : tkV G L R = 0 ∧ tkE G L R = 3 ∧ tkL G L R = L := by unfold tkV tkE tkL; rw [h]; exact ⟨rfl, rfl, rfl⟩
theorem tk_some_v {G : Nat → Int} {L : Nat → Bool} {R i : Nat} (h : tkI G L R = some i) : tkV G L R = nm (G i) i ∧ tkE G L R = 0 := by unfold tkV tkE; rw [h]; exact ⟨rfl, rfl⟩

def upf {α : Type} (f : Nat → α) (k : Nat) (v : α) (j : Nat) : α := if j = k then v else f j
structure St where
  room : Nat
  G : Nat → Int
  L : Nat → Bool
  T : Nat → TR
  now : Int
  ch : List (Int × Int)
  go : List (Int × Int)
def St0 (r : Nat) : St := ⟨r, z0, n0, fun _ => [], 1, [], []⟩
def markL (ch : List (Int × Int)) (id now : Int) : List (Int × Int) := (ch.filter fun x => x.1 != id) ++ [(id, now)]
def atS (S : St) (id : Int) : Option Nat := (List.range 32).find? (fun i => hasId (S.T i) id)
def getB (S : St) (id : Int) : Bool := (atS S id).isSome
def getP (S : St) (id : Int) : PT := match atS S id with | some i => ((S.T i).getD (findI (S.T i) id).toNat d0).2 | none => zT
def spE (S : St) (P : PT) : Int := if rightT P then tkE S.G S.L S.room else 1
def spV (S : St) (P : PT) : Int := if spE S P = 0 then tkV S.G S.L S.room else 0
def spS (S : St) (P : PT) : St := if spE S P = 0 then { S with L := tkL S.G S.L S.room, T := upf S.T P.1.toNat (tadR P.1 (S.T P.1.toNat) (tkV S.G S.L S.room) P), ch := markL S.ch (tkV S.G S.L S.room) S.now } else S
def deE (S : St) (id : Int) : Int := if getB S id then 0 else 4
def deS (S : St) (id : Int) : St := match atS S id with
  | some i => { S with T := upf S.T i (tcuR (S.T i) (findI (S.T i) id)), G := drG S.G S.L id, L := drL S.G S.L id, go := S.go ++ [(id, S.now)] }
  | none => S
def layTs (T : Nat → TR) (i : Nat) (id : Int) (P : PT) : Nat → TR :=
  if i = P.1.toNat then upf T i (tpuR i (T i) (findI (T i) id) P)
  else upf (upf T i (tcuR (T i) (findI (T i) id))) P.1.toNat (tadR P.1 (upf T i (tcuR (T i) (findI (T i) id)) P.1.toNat) id P)
def layS (S : St) (id : Int) (P : PT) : St := match atS S id with
  | some i => { S with T := layTs S.T i id P, ch := markL S.ch id S.now }
  | none => S
def puE (S : St) (id : Int) (Q : PT) (ks : List Int) : Int := if getB S id then withE (getP S id) Q ks else 4
def puS (S : St) (id : Int) (Q : PT) (ks : List Int) : St := if puE S id Q ks = 0 then layS S id (withV (getP S id) Q ks) else S
def cuE (S : St) (id : Int) (ks : List Int) : Int := if getB S id then woutE (getP S id) ks else 4
def cuS (S : St) (id : Int) (ks : List Int) : St := if cuE S id ks = 0 then layS S id (woutV (getP S id) ks) else S
def liveS (S : St) (id : Int) : Bool := liveB S.G S.L id
def to1 (S : St) (id : Int) : St := if liveS S id then { S with ch := markL S.ch id S.now } else S
def toS (S : St) (l : List Int) : St := l.foldl to1 S
def toN (S : St) (l : List Int) : Nat := (l.filter (liveS S)).length
def neS (S : St) : St := { S with now := S.now + 1 }
def insI (out : List Int) (x : Int) : List Int := out.takeWhile (fun y => decide (y ≤ x)) ++ x :: out.dropWhile (fun y => decide (y ≤ x))
def sortI (l : List Int) : List Int := l.foldl insI []
def chL (S : St) (since : Int) : List Int := sortI ((S.ch.filter fun x => liveS S x.1 && decide (since < x.2)).map Prod.fst)
def goL (S : St) (since : Int) : List Int := sortI ((S.go.filter fun x => decide (since < x.2)).map Prod.fst)
def alS (S : St) : List Int := allL S.G S.L 256

def inS (S : St) (id : Int) (P : PT) : Prop := ∃ i, i < 32 ∧ (id, P) ∈ S.T i
theorem hasId_mem {R : TR} {id : Int} : hasId R id = true ↔ ∃ P, (id, P) ∈ R := by
  unfold hasId
  rw [List.any_eq_true]
  constructor
  · rintro ⟨⟨x, P⟩, hx, e⟩
    exact ⟨P, by rw [← beq_iff_eq.1 e]; exact hx⟩
  · rintro ⟨P, hx⟩
    exact ⟨_, hx, by simp⟩
structure WS (S : St) : Prop where
  nod : ∀ i, i < 32 → ((S.T i).map Prod.fst).Nodup
  apart : ∀ i, i < 32 → ∀ j, j < 32 → i ≠ j → ∀ x P Q, (x, P) ∈ S.T i → (x, Q) ∉ S.T j
  fit : ∀ i, i < 32 → ∀ x ∈ S.T i, fitsB i x.2 = true
  live : ∀ x, liveS S x = true ↔ ∃ P, inS S x P
  ok : POk S.room S.G S.L
theorem nod_inj {R : TR} (h : (R.map Prod.fst).Nodup) {x : Int} {P Q : PT} (h1 : (x, P) ∈ R) (h2 : (x, Q) ∈ R) : P = Q := by
  obtain ⟨i, hi, e1⟩ := List.mem_iff_getElem.1 h1
  obtain ⟨j, hj, e2⟩ := List.mem_iff_getElem.1 h2
  have := nodup_at h hi hj (by rw [e1, e2])
  subst this
  rw [e1] at e2
  injection e2
theorem WS.inj {S : St} (h : WS S) {x : Int} {P Q : PT} (h1 : inS S x P) (h2 : inS S x Q) : P = Q := by
  obtain ⟨i, hi, m1⟩ := h1
  obtain ⟨j, hj, m2⟩ := h2
  by_cases c : i = j
  · subst c; exact nod_inj (h.nod i hi) m1 m2
  · exact absurd m2 (h.apart i hi j hj c x P Q m1)
theorem at_some {S : St} {id : Int} {i : Nat} (h : atS S id = some i) : i < 32 ∧ hasId (S.T i) id = true := by
  have h1 := List.find?_some h
  have h2 := List.mem_of_find?_eq_some h
  exact ⟨List.mem_range.1 h2, h1⟩
theorem at_none {S : St} {id : Int} (h : atS S id = none) : ∀ P, ¬ inS S id P := by
  rintro P ⟨i, hi, hm⟩
  have := List.find?_eq_none.1 h i (List.mem_range.2 hi)
  exact this (hasId_mem.2 ⟨P, hm⟩)
theorem getB_iff {S : St} {id : Int} : getB S id = true ↔ ∃ P, inS S id P := by
  unfold getB
  constructor
  · intro h
    obtain ⟨i, hi⟩ := Option.isSome_iff_exists.1 h
    obtain ⟨h1, h2⟩ := at_some hi
    obtain ⟨P, hP⟩ := hasId_mem.1 h2
    exact ⟨P, i, h1, hP⟩
  · rintro ⟨P, hP⟩
    cases c : atS S id with
    | none => exact absurd hP (at_none c P)
    | some i => rfl
theorem at_get {S : St} (h : WS S) {id : Int} {i : Nat} (ha : atS S id = some i) : (id, getP S id) ∈ S.T i := by
  obtain ⟨h1, h2⟩ := at_some ha
  obtain ⟨P, hP⟩ := hasId_mem.1 h2
  obtain ⟨f1, f2⟩ := find_mem (h.nod i h1) hP
  unfold getP
  rw [ha]
  simp only [f2]
  exact hP
theorem WS.get {S : St} (h : WS S) {id : Int} {P : PT} (hP : inS S id P) : getP S id = P := by
  cases c : atS S id with
  | none => exact absurd hP (at_none c P)
  | some i => exact h.inj ⟨i, (at_some c).1, at_get h c⟩ hP
theorem fits_iff {i : Nat} {P : PT} : fitsB i P = true ↔ rightT P = true ∧ P.1 = (i : Int) := by unfold fitsB; rw [Bool.and_eq_true, beq_iff_eq]
theorem right_has {P : PT} (h : rightT P = true) : P.1.toNat < 32 ∧ ((P.1.toNat : Nat) : Int) = P.1 ∧ 0 ≤ P.1 ∧ P.1 ≤ 31 := by
  unfold rightT rightP at h
  simp only [Bool.and_eq_true, decide_eq_true_eq] at h
  omega

theorem mem_add {s : Nat} {R : TR} {id : Int} {P : PT} (hf : fitsB s P = true) (hn : hasId R id = false) : tadR s R id P = R ++ [(id, P)] := by
  unfold tadR tadE
  rw [hf, hn]
  rfl
theorem find_row {R : TR} {id : Int} (h : (R.map Prod.fst).Nodup) (hh : hasId R id = true) : ∃ (i : Nat) (hi : i < R.length), findI R id = (i : Int) ∧ R[i].1 = id ∧ inR R (findI R id) = true := by
  obtain ⟨P, hP⟩ := hasId_mem.1 hh
  obtain ⟨f1, f2⟩ := find_mem h hP
  obtain ⟨i, hi, e1, e2⟩ := inR_spec f1
  refine ⟨i, hi, e1, ?_, f1⟩
  rw [← e2, f2]
theorem mem_cut {R : TR} {id : Int} (h : (R.map Prod.fst).Nodup) (hh : hasId R id = true) {x : Int × PT} : x ∈ tcuR R (findI R id) ↔ x ∈ R ∧ x.1 ≠ id := by
  obtain ⟨i, hi, e1, e2, e3⟩ := find_row h hh
  have hp := cut_filter h hi
  have ec : tcuR R (findI R id) = (R.set i (R.getD (R.length - 1) d0)).take (R.length - 1) := by unfold tcuR; rw [e3, e1]; rfl
  rw [ec, ← hp.mem_iff, List.mem_filter, e2]
  simp
theorem nod_cut {R : TR} {id : Int} (h : (R.map Prod.fst).Nodup) (hh : hasId R id = true) : ((tcuR R (findI R id)).map Prod.fst).Nodup := by
  obtain ⟨i, hi, e1, e2, e3⟩ := find_row h hh
  have hp := cut_filter h hi
  have ec : tcuR R (findI R id) = (R.set i (R.getD (R.length - 1) d0)).take (R.length - 1) := by unfold tcuR; rw [e3, e1]; rfl
  rw [ec]
  exact (hp.map Prod.fst).nodup_iff.1 (List.Nodup.sublist (List.Sublist.map _ List.filter_sublist) h)
theorem put_map {s : Nat} {R : TR} {id : Int} {P : PT} (h : (R.map Prod.fst).Nodup) (hh : hasId R id = true) (hf : fitsB s P = true) : tpuR s R (findI R id) P = R.map (fun x => if x.1 == id then (x.1, P) else x) := by
  obtain ⟨i, hi, e1, e2, e3⟩ := find_row h hh
  have := set_map h hi P
  rw [e2] at this
  rw [this]
  unfold tpuR tpuE
  rw [hf, e3, e1]
  simp [List.getD, List.getElem?_eq_getElem hi, e2]
theorem mem_put {s : Nat} {R : TR} {id : Int} {P : PT} (h : (R.map Prod.fst).Nodup) (hh : hasId R id = true) (hf : fitsB s P = true) {x : Int × PT} : x ∈ tpuR s R (findI R id) P ↔ (x ∈ R ∧ x.1 ≠ id) ∨ x = (id, P) := by
  rw [put_map h hh hf, List.mem_map]
  constructor
  · rintro ⟨y, hy, rfl⟩
    by_cases c : y.1 = id
    · right; rw [if_pos (by simpa using c), c]
    · left; rw [if_neg (by simpa using c)]; exact ⟨hy, c⟩
  · rintro (⟨h1, h2⟩ | rfl)
    · exact ⟨x, h1, by rw [if_neg (by simpa using h2)]⟩
    · obtain ⟨Q, hQ⟩ := hasId_mem.1 hh
      exact ⟨_, hQ, by simp⟩
theorem nod_put {s : Nat} {R : TR} {id : Int} {P : PT} (h : (R.map Prod.fst).Nodup) (hh : hasId R id = true) (hf : fitsB s P = true) : ((tpuR s R (findI R id) P).map Prod.fst).Nodup := by
  rw [put_map h hh hf, List.map_map]
  have : (Prod.fst ∘ fun x : Int × PT => if x.1 == id then (x.1, P) else x) = Prod.fst := by
    funext x
    simp only [Function.comp]
    split <;> rfl
  rw [this]
  exact h

end Go.Proofs.YtkondkajpmafkaaGreat
