/-
  What a pool keeps; what the calls of package pool are to answer, as one bundle (its memory is one block of n cells); the laws' own live question of layer 5.
-/
import Derived.Test.YtiniflddgnbngaaPolB
namespace Go.Proofs.Ytiniflddgnbngaa
open Go.RowKit

def z0 : Nat → Int := fun _ => 0
def n0 : Nat → Bool := fun _ => false
/-- the cells of a pool of no room where none lives (a seat that is loaded whole has no name for a zero value of so many cells) -/
def zcells : Array Value := ((List.range 513).map (poolF 0 z0 n0)).toArray
theorem to_list (l : List Value) : l.toArray.toList = l := rfl
theorem zc_list : zcells.toList = (List.range 513).map (poolF 0 z0 n0) := by unfold zcells; exact to_list _
theorem zc_size : zcells.size = 513 := by unfold zcells; simp
theorem zc_ne : ¬ zcells = #[] := by intro e; have h := zc_size; rw [e] at h; cases h
theorem zv_ref (w : World) : (zeroValue 33).run Try.prog w = .ok (.agg zcells) w := by kernel_rfl
theorem zv_pool (w : World) : (zeroValue 47).run Try.prog w = .ok (.agg zcells) w := by kernel_rfl
/-- what holds of every pool -/
def POk (R : Nat) (G : Nat → Int) (L : Nat → Bool) : Prop := R ≤ 256 ∧ (∀ i, 0 ≤ G i ∧ G i ≤ 65536) ∧ ∀ i, L i = true → i < R ∧ G i ≤ 65535
theorem POk.gen {R : Nat} {G : Nat → Int} {L : Nat → Bool} (h : POk R G L) : GenOk G := fun i _ => by have := h.2.1 i; omega
theorem POk.zero {R : Nat} (h : R ≤ 256) : POk R z0 n0 := ⟨h, fun i => by unfold z0; omega, fun i hi => by cases hi⟩
theorem tk_spec {G : Nat → Int} {L : Nat → Bool} {R i : Nat} (h : tkI G L R = some i) : i < R ∧ L i = false ∧ G i ≤ 65535 := by
  unfold tkI at h
  have h1 := List.find?_some h
  have h2 := List.mem_of_find?_eq_some h
  unfold freeB at h1
  simp at h1 h2
  exact ⟨h2, h1.1, h1.2⟩
theorem POk.take {R : Nat} {G : Nat → Int} {L : Nat → Bool} (h : POk R G L) : POk R G (tkL G L R) := by
  unfold tkL
  cases e : tkI G L R with
  | none => exact h
  | some i =>
    obtain ⟨hi, _, hg⟩ := tk_spec e
    refine ⟨h.1, h.2.1, fun j hj => ?_⟩
    unfold upd at hj
    by_cases c : j = i
    · rw [c]; exact ⟨hi, hg⟩
    · simp only [if_neg c] at hj; exact h.2.2 j hj
theorem live_spec {G : Nat → Int} {L : Nat → Bool} {x : Int} (h : liveB G L x = true) : ∃ i : Nat, i < 256 ∧ (x % 256).toNat = i ∧ L i = true ∧ x = nm (G i) i := by
  unfold liveB at h
  have h3 : idOk x = true ∧ L (x % 256).toNat = true ∧ G (x % 256).toNat = x / 256 := by simpa using h
  refine ⟨_, by omega, rfl, h3.2.1, ?_⟩
  rw [h3.2.2]
  unfold nm
  omega
theorem POk.drop {R : Nat} {G : Nat → Int} {L : Nat → Bool} (h : POk R G L) (x : Int) : POk R (drG G L x) (drL G L x) := by
  unfold drG drL
  by_cases c : liveB G L x = true
  · rw [if_pos c, if_pos c]
    obtain ⟨i, _, e, hl, _⟩ := live_spec c
    rw [e]
    refine ⟨h.1, fun j => ?_, fun j hj => ?_⟩
    · unfold upd
      by_cases d : j = i
      · simp only [if_pos d]
        have := h.2.1 i
        have := h.2.2 i hl
        omega
      · simp only [if_neg d]; exact h.2.1 j
    · unfold upd at hj ⊢
      by_cases d : j = i
      · simp only [if_pos d] at hj; cases hj
      · simp only [if_neg d] at hj ⊢; exact h.2.2 j hj
  · rw [if_neg c, if_neg c]; exact h
/-- a name that was dropped, or that never lived, does not live -/
theorem drop_dead (G : Nat → Int) (L : Nat → Bool) (x : Int) : liveB (drG G L x) (drL G L x) x = false := by
  unfold drG drL
  by_cases c : liveB G L x = true
  · rw [if_pos c, if_pos c]
    unfold liveB upd
    simp
  · rw [if_neg c, if_neg c]; simpa using c

/-- what the calls of package pool answer, F being the cells of a pool -/
def PC (T : TypeId) (n : Nat) (F : Nat → (Nat → Int) → (Nat → Bool) → Nat → Value) : Prop :=
  (∀ (w : World) (R : Nat), R ≤ 256 → Calls Try.prog 6 #[.int .i64 R] w fun e w' => ∃ g, e = .returned (.tuple #[.pointer (some ⟨g, 0, none⟩), .int .i64 0]) ∧ w.heap.size ≤ g ∧ w'.rowIs g T n (F R z0 n0) ∧ Below w.heap.size w w') ∧
  (∀ (w : World) (x : Int), (x < 0 ∨ 256 < x) → Calls Try.prog 6 #[.int .i64 x] w fun e w' => e = .returned (.tuple #[.pointer none, .int .i64 1]) ∧ Below w.heap.size w w') ∧
  (∀ (w : World) (g R : Nat) (G : Nat → Int) (L : Nat → Bool), POk R G L → w.rowIs g T n (F R G L) → Calls Try.prog 7 #[.pointer (some ⟨g, 0, none⟩)] w fun e w' => e = .returned (.tuple #[.int .i64 (tkV G L R), .int .i64 (tkE G L R)]) ∧ w'.rowIs g T n (F R G (tkL G L R)) ∧ w.grownBy w' (some g)) ∧
  (∀ (w : World) (g R : Nat) (G : Nat → Int) (L : Nat → Bool) (x : Int), POk R G L → w.rowIs g T n (F R G L) → Calls Try.prog 10 #[.pointer (some ⟨g, 0, none⟩), .int .i64 x] w fun e w' => e = .returned (.bool (liveB G L x)) ∧ w'.rowIs g T n (F R (drG G L x) (drL G L x)) ∧ w.grownBy w' (some g)) ∧
  (∀ (w : World) (g R : Nat) (G : Nat → Int) (L : Nat → Bool) (x : Int), POk R G L → w.rowIs g T n (F R G L) → Calls Try.prog 12 #[.pointer (some ⟨g, 0, none⟩), .int .i64 x] w fun e w' => e = .returned (.bool (liveB G L x)) ∧ Below w.heap.size w w') ∧
  (∀ (w : World) (g R : Nat) (G : Nat → Int) (L : Nat → Bool), POk R G L → w.rowIs g T n (F R G L) → Calls Try.prog 14 #[.pointer (some ⟨g, 0, none⟩)] w fun e w' => ∃ a cap, e = .returned (.slice a (allL G L 256).length cap) ∧ Row w' a (allL G L 256).length (allL G L 256) ∧ Below w.heap.size w w') ∧
  (∀ (w : World) (g R : Nat) (G : Nat → Int) (L : Nat → Bool), POk R G L → w.rowIs g T n (F R G L) → Calls Try.prog 16 #[.pointer (some ⟨g, 0, none⟩)] w fun e w' => e = .returned (.int .i64 ((allL G L 256).length : Nat)) ∧ Below w.heap.size w w') ∧
  (∀ (w : World) (x : Int), Calls Try.prog 18 #[.int .i64 x] w fun e w' => e = .returned (.int .i64 (if idOk x then x % 256 else -1)) ∧ Below w.heap.size w w') ∧
  (∀ (w : World) (x : Int), Calls Try.prog 19 #[.int .i64 x] w fun e w' => e = .returned (.int .i64 (if idOk x then x / 256 else -1)) ∧ Below w.heap.size w w') ∧
  (∀ (w : World), Calls Try.prog 7 #[.pointer none] w fun e w' => e = .returned (.tuple #[.int .i64 0, .int .i64 1]) ∧ Below w.heap.size w w') ∧
  (∀ (w : World) (x : Int), Calls Try.prog 10 #[.pointer none, .int .i64 x] w fun e w' => e = .returned (.bool false) ∧ Below w.heap.size w w') ∧
  (∀ (w : World) (x : Int), Calls Try.prog 12 #[.pointer none, .int .i64 x] w fun e w' => e = .returned (.bool false) ∧ Below w.heap.size w w') ∧
  (∀ (w : World), Calls Try.prog 14 #[.pointer none] w fun e w' => (∃ a cap, e = .returned (.slice a 0 cap)) ∧ Below w.heap.size w w') ∧
  (∀ (w : World), Calls Try.prog 16 #[.pointer none] w fun e w' => e = .returned (.int .i64 0) ∧ Below w.heap.size w w')
theorem PC.new {T : TypeId} {n : Nat} {F : Nat → (Nat → Int) → (Nat → Bool) → Nat → Value} (h : PC T n F) : ∀ (w : World) (R : Nat), R ≤ 256 → Calls Try.prog 6 #[.int .i64 R] w fun e w' => ∃ g, e = .returned (.tuple #[.pointer (some ⟨g, 0, none⟩), .int .i64 0]) ∧ w.heap.size ≤ g ∧ w'.rowIs g T n (F R z0 n0) ∧ Below w.heap.size w w' := h.1
theorem PC.bad {T : TypeId} {n : Nat} {F : Nat → (Nat → Int) → (Nat → Bool) → Nat → Value} (h : PC T n F) : ∀ (w : World) (x : Int), (x < 0 ∨ 256 < x) → Calls Try.prog 6 #[.int .i64 x] w fun e w' => e = .returned (.tuple #[.pointer none, .int .i64 1]) ∧ Below w.heap.size w w' := h.2.1
theorem PC.take {T : TypeId} {n : Nat} {F : Nat → (Nat → Int) → (Nat → Bool) → Nat → Value} (h : PC T n F) : ∀ (w : World) (g R : Nat) (G : Nat → Int) (L : Nat → Bool), POk R G L → w.rowIs g T n (F R G L) → Calls Try.prog 7 #[.pointer (some ⟨g, 0, none⟩)] w fun e w' => e = .returned (.tuple #[.int .i64 (tkV G L R), .int .i64 (tkE G L R)]) ∧ w'.rowIs g T n (F R G (tkL G L R)) ∧ w.grownBy w' (some g) := h.2.2.1
theorem PC.drop {T : TypeId} {n : Nat} {F : Nat → (Nat → Int) → (Nat → Bool) → Nat → Value} (h : PC T n F) : ∀ (w : World) (g R : Nat) (G : Nat → Int) (L : Nat → Bool) (x : Int), POk R G L → w.rowIs g T n (F R G L) → Calls Try.prog 10 #[.pointer (some ⟨g, 0, none⟩), .int .i64 x] w fun e w' => e = .returned (.bool (liveB G L x)) ∧ w'.rowIs g T n (F R (drG G L x) (drL G L x)) ∧ w.grownBy w' (some g) := h.2.2.2.1
theorem PC.live {T : TypeId} {n : Nat} {F : Nat → (Nat → Int) → (Nat → Bool) → Nat → Value} (h : PC T n F) : ∀ (w : World) (g R : Nat) (G : Nat → Int) (L : Nat → Bool) (x : Int), POk R G L → w.rowIs g T n (F R G L) → Calls Try.prog 12 #[.pointer (some ⟨g, 0, none⟩), .int .i64 x] w fun e w' => e = .returned (.bool (liveB G L x)) ∧ Below w.heap.size w w' := h.2.2.2.2.1
theorem PC.all {T : TypeId} {n : Nat} {F : Nat → (Nat → Int) → (Nat → Bool) → Nat → Value} (h : PC T n F) : ∀ (w : World) (g R : Nat) (G : Nat → Int) (L : Nat → Bool), POk R G L → w.rowIs g T n (F R G L) → Calls Try.prog 14 #[.pointer (some ⟨g, 0, none⟩)] w fun e w' => ∃ a cap, e = .returned (.slice a (allL G L 256).length cap) ∧ Row w' a (allL G L 256).length (allL G L 256) ∧ Below w.heap.size w w' := h.2.2.2.2.2.1
theorem PC.len {T : TypeId} {n : Nat} {F : Nat → (Nat → Int) → (Nat → Bool) → Nat → Value} (h : PC T n F) : ∀ (w : World) (g R : Nat) (G : Nat → Int) (L : Nat → Bool), POk R G L → w.rowIs g T n (F R G L) → Calls Try.prog 16 #[.pointer (some ⟨g, 0, none⟩)] w fun e w' => e = .returned (.int .i64 ((allL G L 256).length : Nat)) ∧ Below w.heap.size w w' := h.2.2.2.2.2.2.1
theorem PC.index {T : TypeId} {n : Nat} {F : Nat → (Nat → Int) → (Nat → Bool) → Nat → Value} (h : PC T n F) : ∀ (w : World) (x : Int), Calls Try.prog 18 #[.int .i64 x] w fun e w' => e = .returned (.int .i64 (if idOk x then x % 256 else -1)) ∧ Below w.heap.size w w' := h.2.2.2.2.2.2.2.1
theorem PC.gen {T : TypeId} {n : Nat} {F : Nat → (Nat → Int) → (Nat → Bool) → Nat → Value} (h : PC T n F) : ∀ (w : World) (x : Int), Calls Try.prog 19 #[.int .i64 x] w fun e w' => e = .returned (.int .i64 (if idOk x then x / 256 else -1)) ∧ Below w.heap.size w w' := h.2.2.2.2.2.2.2.2.1
theorem PC.takeN {T : TypeId} {n : Nat} {F : Nat → (Nat → Int) → (Nat → Bool) → Nat → Value} (h : PC T n F) : ∀ (w : World), Calls Try.prog 7 #[.pointer none] w fun e w' => e = .returned (.tuple #[.int .i64 0, .int .i64 1]) ∧ Below w.heap.size w w' := h.2.2.2.2.2.2.2.2.2.1
theorem PC.dropN {T : TypeId} {n : Nat} {F : Nat → (Nat → Int) → (Nat → Bool) → Nat → Value} (h : PC T n F) : ∀ (w : World) (x : Int), Calls Try.prog 10 #[.pointer none, .int .i64 x] w fun e w' => e = .returned (.bool false) ∧ Below w.heap.size w w' := h.2.2.2.2.2.2.2.2.2.2.1
theorem PC.liveN {T : TypeId} {n : Nat} {F : Nat → (Nat → Int) → (Nat → Bool) → Nat → Value} (h : PC T n F) : ∀ (w : World) (x : Int), Calls Try.prog 12 #[.pointer none, .int .i64 x] w fun e w' => e = .returned (.bool false) ∧ Below w.heap.size w w' := h.2.2.2.2.2.2.2.2.2.2.2.1
theorem PC.allN {T : TypeId} {n : Nat} {F : Nat → (Nat → Int) → (Nat → Bool) → Nat → Value} (h : PC T n F) : ∀ (w : World), Calls Try.prog 14 #[.pointer none] w fun e w' => (∃ a cap, e = .returned (.slice a 0 cap)) ∧ Below w.heap.size w w' := h.2.2.2.2.2.2.2.2.2.2.2.2.1
theorem PC.lenN {T : TypeId} {n : Nat} {F : Nat → (Nat → Int) → (Nat → Bool) → Nat → Value} (h : PC T n F) : ∀ (w : World), Calls Try.prog 16 #[.pointer none] w fun e w' => e = .returned (.int .i64 0) ∧ Below w.heap.size w w' := h.2.2.2.2.2.2.2.2.2.2.2.2.2

theorem grown_keep {a b : World} {g : Nat} (h : a.grownBy b (some g)) {B : Nat} {w : World} (hb : Below B w a) (hs : B ≤ a.heap.size) (hg : B ≤ g) : Below B w b :=
  ⟨h.os.trans hb.os, h.tape.trans hb.tape, h.output.trans hb.output, Nat.le_trans hb.size h.size, fun k hk => (h.block k (Nat.lt_of_lt_of_le hk hs) (by simp; omega)).trans (hb.block k hk)⟩

def l1 : Nat → Bool := tkL z0 n0 2
def l2 : Nat → Bool := tkL z0 l1 2
def l3 : Nat → Bool := tkL z0 l2 2
def g4 : Nat → Int := drG z0 l3 0
def l4 : Nat → Bool := drL z0 l3 0
def l5 : Nat → Bool := tkL g4 l4 2
theorem lv1 : tkV z0 n0 2 = 0 ∧ tkE z0 n0 2 = 0 := by decide
theorem lv2 : tkV z0 l1 2 = 1 ∧ tkE z0 l1 2 = 0 := by decide
theorem lv3 : tkV z0 l2 2 = 0 ∧ tkE z0 l2 2 = 3 := by decide
theorem lv4 : liveB z0 l3 0 = true := by decide
theorem lv5 : tkV g4 l4 2 = 256 ∧ tkE g4 l4 2 = 0 := by decide
theorem lv6 : liveB g4 l5 0 = false ∧ liveB g4 l5 256 = true := by decide
theorem lv7 : (allL g4 l5 256).length = 2 := by decide +kernel

set_option maxHeartbeats 2000000 in
theorem plalive_any {T : TypeId} {n : Nat} {F : Nat → (Nat → Int) → (Nat → Bool) → Nat → Value} (C : PC T n F) (w : World) :
    Calls Try.prog 5 #[] w fun e w' => e = .returned (.bool true) ∧ Below w.heap.size w w' := by
  have HC := Lib.hid C
  clear C
  have k0 : POk 2 z0 n0 := POk.zero (by omega)
  have k1 : POk 2 z0 l1 := k0.take
  have k2 : POk 2 z0 l2 := k1.take
  have k3 : POk 2 z0 l3 := k2.take
  have k4 : POk 2 g4 l4 := k3.drop 0
  have k5 : POk 2 g4 l5 := k4.take
  have HP := Lib.hid (And.intro k0 (And.intro k1 (And.intro k2 (And.intro k3 (And.intro k4 k5)))))
  clear k0 k1 k2 k3 k4 k5
  go_enter Try.func5, Try.ntmps5
  go_wp2_with fail
  refine (HC.out.new _ 2 (by omega)).mono ?_
  rintro e w1 ⟨g, rfl, hg, hr, hb⟩
  have HR := Lib.hid hr
  have HB := Lib.hid hb
  clear hr hb
  go_wp2_with fail
  refine (HC.out.take _ g 2 z0 n0 HP.out.1 HR.out).mono ?_
  rintro e w2 ⟨rfl, hr, hb⟩
  rw [lv1.1, lv1.2]
  replace HB := Lib.hid (grown_keep hb HB.out HB.out.size hg)
  replace HR := Lib.hid hr
  clear hr hb
  go_wp2_with fail
  refine (HC.out.take _ g 2 z0 l1 HP.out.2.1 HR.out).mono ?_
  rintro e w3 ⟨rfl, hr, hb⟩
  rw [lv2.1, lv2.2]
  replace HB := Lib.hid (grown_keep hb HB.out HB.out.size hg)
  replace HR := Lib.hid hr
  clear hr hb
  go_wp2_with fail
  refine (HC.out.take _ g 2 z0 l2 HP.out.2.2.1 HR.out).mono ?_
  rintro e w4 ⟨rfl, hr, hb⟩
  rw [lv3.1, lv3.2]
  replace HB := Lib.hid (grown_keep hb HB.out HB.out.size hg)
  replace HR := Lib.hid hr
  clear hr hb
  go_wp2_with fail
  refine (HC.out.drop _ g 2 z0 l3 0 HP.out.2.2.2.1 HR.out).mono ?_
  rintro e w5 ⟨rfl, hr, hb⟩
  rw [lv4]
  replace HB := Lib.hid (grown_keep hb HB.out HB.out.size hg)
  replace HR := Lib.hid hr
  clear hr hb
  go_wp2_with fail
  refine (HC.out.take _ g 2 g4 l4 HP.out.2.2.2.2.1 HR.out).mono ?_
  rintro e w6 ⟨rfl, hr, hb⟩
  rw [lv5.1, lv5.2]
  replace HB := Lib.hid (grown_keep hb HB.out HB.out.size hg)
  replace HR := Lib.hid hr
  clear hr hb
  go_wp2_with fail
  refine (HC.out.live _ g 2 g4 l5 0 HP.out.2.2.2.2.2 HR.out).mono ?_
  rintro e w7 ⟨rfl, hb⟩
  rw [lv6.1]
  replace HR := Lib.hid (World.rowIs.keep HR.out hb)
  replace HB := Lib.hid (bthen HB.out hb)
  clear hb
  go_wp2_with fail
  refine (HC.out.live _ g 2 g4 l5 256 HP.out.2.2.2.2.2 HR.out).mono ?_
  rintro e w8 ⟨rfl, hb⟩
  rw [lv6.2]
  replace HR := Lib.hid (World.rowIs.keep HR.out hb)
  replace HB := Lib.hid (bthen HB.out hb)
  clear hb
  go_wp2_with fail
  refine (HC.out.gen _ 256).mono ?_
  rintro e w9 ⟨rfl, hb⟩
  rw [show (if idOk 256 then (256 : Int) / 256 else -1) = 1 by decide]
  replace HR := Lib.hid (World.rowIs.keep HR.out hb)
  replace HB := Lib.hid (bthen HB.out hb)
  clear hb
  go_wp2_with fail
  refine (HC.out.index _ 256).mono ?_
  rintro e w10 ⟨rfl, hb⟩
  rw [show (if idOk 256 then (256 : Int) % 256 else -1) = 0 by decide]
  replace HR := Lib.hid (World.rowIs.keep HR.out hb)
  replace HB := Lib.hid (bthen HB.out hb)
  clear hb
  go_wp2_with fail
  refine (HC.out.len _ g 2 g4 l5 HP.out.2.2.2.2.2 HR.out).mono ?_
  rintro e w11 ⟨rfl, hb⟩
  rw [lv7]
  replace HB := Lib.hid (bthen HB.out hb)
  clear hb
  go_wp2
  go_ret
  exact ⟨rfl, HB.out⟩

end Go.Proofs.Ytiniflddgnbngaa
