/-
  4 texts in one file, each with its own heading.
-/
import Derived.Test.YtdndafdninnjfaaGreatMAff
import Derived.Deep.OwnRows
import Derived.Deep.QuietTactic
import Derived.Maps.AppendAt
/-
  A pool as a row of cells: its room, of each index the generation, and whether its name lives; what the reference's Right, Live and Take of layer 5 answer.
-/
namespace Go.Proofs.YtdndafdninnjfaaGreat
open Go.RowKit

def upd {α : Type} (f : Nat → α) (k : Nat) (v : α) (j : Nat) : α := if j = k then v else f j
section
variable {w : World} {g : Nat} {t : TypeId} {R : Int} {G : Nat → Int} {L : Nat → Bool} {k : Nat}
end
theorem grown_trans {a b c : World} {r : Option Nat} (h : a.grownBy b r) (k : b.grownBy c r) : a.grownBy c r :=
  ⟨k.os.trans h.os, k.tape.trans h.tape, k.output.trans h.output, Nat.le_trans h.size k.size, fun i hi hn => (k.block i (Nat.lt_of_lt_of_le hi h.size) hn).trans (h.block i hi hn)⟩
theorem below_grown {a b : World} (h : Below a.heap.size a b) (r : Option Nat) : a.grownBy b r := ⟨h.os, h.tape, h.output, h.size, fun k hk _ => h.block k hk⟩
/-! names -/
def idOk (x : Int) : Bool := decide (0 ≤ x) && decide (x < 16777216)
/-- a name by its parts -/
def nm (g : Int) (i : Nat) : Int := 256 * g + i
def liveB (G : Nat → Int) (L : Nat → Bool) (x : Int) : Bool := idOk x && (L (x % 256).toNat && decide (G (x % 256).toNat = x / 256))
/-- whether an index may be given -/
def freeB (G : Nat → Int) (L : Nat → Bool) (i : Nat) : Bool := !L i && decide (G i ≤ 65535)
def tkI (G : Nat → Int) (L : Nat → Bool) (R : Nat) : Option Nat := (List.range R).find? (freeB G L)
def tkV (G : Nat → Int) (L : Nat → Bool) (R : Nat) : Int := match tkI G L R with | some i => nm (G i) i | none => 0
def tkE (G : Nat → Int) (L : Nat → Bool) (R : Nat) : Int := match tkI G L R with | some _ => 0 | none => 3
def tkL (G : Nat → Int) (L : Nat → Bool) (R : Nat) : Nat → Bool := match tkI G L R with | some i => upd L i true | none => L
/-- behind a drop -/
def drL (G : Nat → Int) (L : Nat → Bool) (x : Int) : Nat → Bool := if liveB G L x then upd L (x % 256).toNat false else L
def drG (G : Nat → Int) (L : Nat → Bool) (x : Int) : Nat → Int := if liveB G L x then upd G (x % 256).toNat (G (x % 256).toNat + 1) else G

end Go.Proofs.YtdndafdninnjfaaGreat
/-
  What the reference's All, Same and Has of layer 5 answer.
-/
namespace Go.Proofs.YtdndafdninnjfaaGreat
open Go.RowKit

/-- the names that live, of the first k indexes -/
def allL (G : Nat → Int) (L : Nat → Bool) (k : Nat) : List Int := ((List.range k).filter L).map fun i => nm (G i) i
/-- names that the call itself appends -/
def OwnD (w : World) (base : Nat) (v : Value) (n : Nat) (zs : List Int) : Prop := w.ownsRow base 41 1 v n (zs.map (Value.int .i64))
theorem id_info : (Tryz.prog.info? 41).map (fun i => (i.zero, i.size, i.bytes)) = some (some (.int .i64 0), 1, 8) := by kernel_rfl
theorem OwnD.nil (w : World) (base : Nat) : OwnD w base (.slice none 0 0) 0 [] := World.ownsRow_nil _ _ _ _
theorem OwnD.row {w : World} {base : Nat} {v : Value} {n : Nat} {zs : List Int} (h : OwnD w base v n zs) : ∃ a cap, v = .slice a n cap ∧ Row w a n zs := by
  have hl : zs.length = n := by simpa using h.1
  rcases h.2 with ⟨rfl, rfl⟩ | ⟨g, cap, cur, rfl, hb, hh, hnc, hm, hs, ht⟩
  · exact ⟨none, 0, rfl, hl, by omega, Or.inl rfl⟩
  · unfold maxLen at hm
    refine ⟨_, cap, rfl, hl, by omega, Or.inr ⟨g, 0, rfl, fun i hi => ?_⟩⟩
    rw [Nat.zero_add]
    have hi' : i < (zs.map (Value.int .i64)).length := by rw [List.length_map]; omega
    have hc := World.ownsRow.cellAt (j := i) h (by omega)
    rw [hc]
    simp [List.getD, List.getElem?_eq_getElem (show i < zs.length by omega)]
theorem grownD_below {w0 wr w' : World} {base B : Nat} {v : Value} {n : Nat} {zs : List Int} {o : Obj} (ho : OwnD wr base v n zs) (hB : B ≤ base) (hb : Below B w0 wr) (hs : B ≤ wr.heap.size) (hg : (wr.alloc o).grownBy w' v.ownBlock) : Below B w0 w' :=
  (hb.alloc hs o).grown hg (by simp; omega) (fun k hk => by have := World.ownsRow.lt ho k hk; omega)

theorem row_at {w : World} {a : Option Addr} {len : Nat} {zs : List Int} (h : Row w a len zs) {k : Nat} (hk : k < len) : ∃ b off x, a = some ⟨b, off, none⟩ ∧ zs[k]? = some x ∧ w.cell? ⟨b, off + k, none⟩ = some (.int .i64 x) := by
  obtain ⟨h1, h2, h3⟩ := h
  rcases h3 with h3 | ⟨b, off, rfl, hc⟩
  · omega
  · have hk' : k < zs.length := by omega
    have c := hc k hk
    rw [show zs.getD k 0 = zs[k] by simp [List.getD, List.getElem?_eq_getElem hk']] at c
    exact ⟨b, off, _, rfl, List.getElem?_eq_getElem hk', c⟩

set_option maxHeartbeats 1000000 in
theorem plhas_any (a : Option Addr) (len cap : Nat) (zs : List Int) (x : Int) (w : World) (row : Row w a len zs) :
    Calls Tryz.prog 11 #[.slice a len cap, .int .i64 x] w fun e w' => e = .returned (.bool (decide (x ∈ zs))) ∧ w = w' := by
  have HL := Lib.hid row.1
  have hbig := row.2.1
  have HRow := Lib.hid row
  clear row
  go_enter Tryz.func11, Tryz.ntmps11
  go_wp2
  go_loopw [5] (fun i wr => ∃ k : Nat, k ≤ len ∧ i = .int .i64 k ∧ (x ∉ zs.take k) ∧ wr = w) (fun i _ => len - (intOf i).toNat)
  case atStart => exact ⟨0, by omega, rfl, by simp, rfl⟩
  case round =>
    obtain ⟨k, hk, rfl, hz, rfl⟩ := hrel
    have HZ := Lib.hid hz
    clear hz
    by_cases hlt : k < len
    · obtain ⟨b, off, y, rfl, hv, c0⟩ := row_at HRow.out hlt
      have HV := Lib.hid hv
      clear hv
      have hk0 : (0 : Int) ≤ (k : Int) := by omega
      have hk1 : (k : Int) < (len : Int) := by omega
      by_cases he : y = x
      · have ge : (y == x) = true := by rw [he]; simp
        have HE := Lib.hid he
        clear he
        go_wp2
        go_ret
        exact ⟨by rw [show decide (x ∈ zs) = true by rw [← HE.out]; simpa using List.mem_of_getElem? HV.out]; rfl, rfl⟩
      · have ge : (y == x) = false := by simpa using he
        have HE := Lib.hid (show x ∉ zs.take (k + 1) by
          rw [List.take_add_one, HV.out]
          simp only [Option.toList_some, List.mem_append, List.mem_singleton, not_or]
          exact ⟨HZ.out, fun e => he e.symm⟩)
        clear he
        go_wp2
        go_roundw
        case rel => exact ⟨k + 1, by omega, by go_num, HE.out, by trivial⟩
        case measure => simp [intOf] <;> omega
    · obtain rfl : k = len := by omega
      have e1 := HZ.out
      rw [List.take_of_length_le (by rw [HL.out]; exact Nat.le_refl _)] at e1
      have HE := Lib.hid e1
      clear e1
      go_wp2
      go_ret
      exact ⟨by rw [show decide (x ∈ zs) = false by simpa using HE.out]; rfl, rfl⟩

set_option maxHeartbeats 1000000 in
theorem psame_any (a b : Option Addr) (n m cap cap' : Nat) (xs ys : List Int) (w : World) (row : Row w a n xs) (row' : Row w b m ys) :
    Calls Tryz.prog 16 #[.slice a n cap, .slice b m cap'] w fun e w' => e = .returned (.bool (decide (xs = ys))) ∧ Below w.heap.size w w' := by
  have HL := Lib.hid (And.intro row.1 row'.1)
  have hbig := row.2.1
  have HRow := Lib.hid row
  have HRow' := Lib.hid row'
  clear row row'
  by_cases hnm : n = m
  · subst hnm
    go_enter Tryz.func16, Tryz.ntmps16
    go_wp2
    go_loopw [5] (fun i wr => ∃ k : Nat, k ≤ n ∧ i = .int .i64 k ∧ xs.take k = ys.take k ∧ Below w.heap.size w wr) (fun i _ => n - (intOf i).toNat)
    case atStart => exact ⟨0, by omega, rfl, by simp, Below.refl _ _⟩
    case round =>
      obtain ⟨k, hk, rfl, hz, hb⟩ := hrel
      have HZ := Lib.hid hz
      have HB := Lib.hid hb
      clear hz hb
      by_cases hlt : k < n
      · obtain ⟨p, off, x, rfl, hv, c0⟩ := row_at (row_keep HRow.out HB.out) hlt
        obtain ⟨p', off', y, rfl, hv', c1⟩ := row_at (row_keep HRow'.out HB.out) hlt
        have HV := Lib.hid (And.intro hv hv')
        clear hv hv'
        have hk0 : (0 : Int) ≤ (k : Int) := by omega
        have hk1 : (k : Int) < (n : Int) := by omega
        by_cases he : x = y
        · have HE := Lib.hid (show xs.take (k + 1) = ys.take (k + 1) by rw [List.take_add_one, List.take_add_one, HV.out.1, HV.out.2, HZ.out, he])
          subst he
          go_wp2
          go_quiet (fail)
          go_wp2
          go_roundw
          case rel => exact ⟨k + 1, by omega, by go_num, HE.out, Go.below_drewN HB.out nq⟩
          case measure => simp [intOf] <;> omega
        · have ge : (x != y) = true := by simpa using he
          have HE := Lib.hid (show xs ≠ ys from fun e => he (by have h1 := HV.out.1; rw [e, HV.out.2] at h1; exact (Option.some.inj h1).symm))
          clear he
          go_wp2
          go_quiet (fail)
          go_wp2
          go_ret
          exact ⟨by rw [show decide (xs = ys) = false by simpa using HE.out]; rfl, Go.below_drewN HB.out nq⟩
      · obtain rfl : k = n := by omega
        have e1 := HZ.out
        rw [List.take_of_length_le (by rw [HL.out.1]; exact Nat.le_refl _), List.take_of_length_le (by rw [HL.out.2]; exact Nat.le_refl _)] at e1
        have HE := Lib.hid e1
        clear e1
        go_wp2
        go_ret
        exact ⟨by rw [show decide (xs = ys) = true by simpa using HE.out]; rfl, HB.out⟩
  · have gn : ((n : Int) != (m : Int)) = true := by simp; omega
    have HE := Lib.hid (show xs ≠ ys from fun e => hnm (by rw [← HL.out.1, ← HL.out.2, e]))
    clear hnm
    go_enter Tryz.func16, Tryz.ntmps16
    go_wp2
    go_ret
    exact ⟨by rw [show decide (xs = ys) = false by simpa using HE.out]; rfl, Below.refl _ _⟩

end Go.Proofs.YtdndafdninnjfaaGreat
/-
  What a pool keeps; what the calls of package pool are to answer, as one bundle (its memory is one block of n cells); the laws' own live question of layer 5.
-/
namespace Go.Proofs.YtdndafdninnjfaaGreat
open Go.RowKit

def z0 : Nat → Int := fun _ => 0
def n0 : Nat → Bool := fun _ => false
/-- what holds of every pool -/
def POk (R : Nat) (G : Nat → Int) (L : Nat → Bool) : Prop := R ≤ 256 ∧ (∀ i, 0 ≤ G i ∧ G i ≤ 65536) ∧ ∀ i, L i = true → i < R ∧ G i ≤ 65535
theorem POk.zero {R : Nat} (h : R ≤ 256) : POk R z0 n0 := ⟨h, fun i => by unfold z0; omega, fun i hi => by cases hi⟩
theorem tk_spec {G : Nat → Int} {L : Nat → Bool} {R i : Nat} (h : tkI G L R = some i) : i < R ∧ L i = false ∧ G i ≤ 65535 := by
  unfold tkI at h
  have h1 := List.find?_some h
  have h2 := List.mem_of_find?_eq_some h
  unfold freeB at h1
  simp at h1 h2
  exact ⟨h2, h1.1, h1.2⟩
theorem POk.take {R : Nat} {G : Nat → Int} {L : Nat → Bool} (h : POk R G L) : POk R G (tkL G L R) := by
  unfold tkL
  cases e : tkI G L R with
  | none => exact h
  | some i =>
    obtain ⟨hi, _, hg⟩ := tk_spec e
    refine ⟨h.1, h.2.1, fun j hj => ?_⟩
    unfold upd at hj
    by_cases c : j = i
    · rw [c]; exact ⟨hi, hg⟩
    · simp only [if_neg c] at hj; exact h.2.2 j hj
theorem live_spec {G : Nat → Int} {L : Nat → Bool} {x : Int} (h : liveB G L x = true) : ∃ i : Nat, i < 256 ∧ (x % 256).toNat = i ∧ L i = true ∧ x = nm (G i) i := by
  unfold liveB at h
  have h3 : idOk x = true ∧ L (x % 256).toNat = true ∧ G (x % 256).toNat = x / 256 := by simpa using h
  refine ⟨_, by omega, rfl, h3.2.1, ?_⟩
  rw [h3.2.2]
  unfold nm
  omega
theorem POk.drop {R : Nat} {G : Nat → Int} {L : Nat → Bool} (h : POk R G L) (x : Int) : POk R (drG G L x) (drL G L x) := by
  unfold drG drL
  by_cases c : liveB G L x = true
  · rw [if_pos c, if_pos c]
    obtain ⟨i, _, e, hl, _⟩ := live_spec c
    rw [e]
    refine ⟨h.1, fun j => ?_, fun j hj => ?_⟩
    · unfold upd
      by_cases d : j = i
      · simp only [if_pos d]
        have := h.2.1 i
        have := h.2.2 i hl
        omega
      · simp only [if_neg d]; exact h.2.1 j
    · unfold upd at hj ⊢
      by_cases d : j = i
      · simp only [if_pos d] at hj; cases hj
      · simp only [if_neg d] at hj ⊢; exact h.2.2 j hj
  · rw [if_neg c, if_neg c]; exact h
def l1 : Nat → Bool := tkL z0 n0 2
def l2 : Nat → Bool := tkL z0 l1 2
def l3 : Nat → Bool := tkL z0 l2 2
def g4 : Nat → Int := drG z0 l3 0
end Go.Proofs.YtdndafdninnjfaaGreat
/-
  No name is given twice: what the law's list of given names keeps; the law's walk, for any pool that answers as the bundle says.
-/
namespace Go.Proofs.YtdndafdninnjfaaGreat
open Go.RowKit

theorem ownD_keep {wr w2 : World} {base : Nat} {v : Value} {n : Nat} {zs : List Int} (h : OwnD wr base v n zs) (hb : Below wr.heap.size wr w2) : OwnD w2 base v n zs := by
  refine ⟨h.1, ?_⟩
  rcases h.2 with h0 | ⟨k, cap, cur, e, hbs, hh, r⟩
  · exact .inl h0
  · refine .inr ⟨k, cap, cur, e, hbs, ?_, r⟩
    rw [hb.block k (Array.getElem?_eq_some_iff.1 hh).1]
    exact hh

theorem tk_some_v {G : Nat → Int} {L : Nat → Bool} {R i : Nat} (h : tkI G L R = some i) : tkV G L R = nm (G i) i ∧ tkE G L R = 0 := by unfold tkV tkE; rw [h]; exact ⟨rfl, rfl⟩

end Go.Proofs.YtdndafdninnjfaaGreat
